/-
  Two trees in one world: the program's and the document's; blocks that are kept beside them.
-/
import Derived.Test.YtlnobekjcengfaaTreeY
namespace Go.Proofs.Ytlnobekjcengfaa
open Go.ChangeShapes Go.WideShapes Go.ChangeAt Go.RowKit Go.Joins
set_option linter.unusedVariables false
set_option linter.unusedSimpArgs false

structure Tw (T : TP) (W w : World) (v : Value) (g : Nat) (s1 s2 : St) (K : List (Nat × Obj)) : Prop where
  gw : Gw W w
  ex : ∃ F B sl, T F w v s1 ∧ RT B w g sl s2 ∧ (∀ k, F k → W.heap.size ≤ k) ∧ W.heap.size ≤ g ∧ (∀ k, sl.ownBlock = some k → W.heap.size ≤ k) ∧ ¬ F g ∧ (∀ k, sl.ownBlock = some k → ¬ F k) ∧ ∀ p ∈ K, w.heap[p.1]? = some p.2 ∧ ¬ F p.1 ∧ p.1 ≠ g ∧ sl.ownBlock ≠ some p.1
section
variable {T : TP} (C : TreeC T) {W w : World} {v : Value} {g : Nat} {s1 s2 : St} {K : List (Nat × Obj)}
theorem Tw.keep (h : Tw T W w v g s1 s2 K) {p : Nat × Obj} (hp : p ∈ K) : w.heap[p.1]? = some p.2 := by
  obtain ⟨F, B, sl, _, _, _, _, _, _, _, h8⟩ := h.ex
  exact (h8 p hp).1
theorem Tw.less (h : Tw T W w v g s1 s2 K) : Tw T W w v g s1 s2 [] := by
  obtain ⟨F, B, sl, h1, h2, h3, h4, h5, h6, h7, _⟩ := h.ex
  exact ⟨h.gw, F, B, sl, h1, h2, h3, h4, h5, h6, h7, fun p hp => (by cases hp)⟩
theorem Tw.size (h : Tw T W w v g s1 s2 K) : s2.l.length ≤ 8 := by
  obtain ⟨F, B, sl, h1, h2, _⟩ := h.ex
  exact h2.len
theorem Tw.head (h : Tw T W w v g s1 s2 K) : ∃ A cap, w.cell? ⟨g, 0, none⟩ = some (.slice A s2.l.length cap) := by
  obtain ⟨F, B, sl, h1, h2, _⟩ := h.ex
  have c0 := (box0 h2.hd).1
  rcases h2.sl.form with ⟨h3, h4⟩ | ⟨r, cap, h3, _⟩
  · exact ⟨none, 0, by rw [c0, h3, h4]; rfl⟩
  · exact ⟨_, cap, by rw [c0, h3]⟩
include C in
theorem Tw.on (h : Tw T W w v g s1 s2 K) {w' : World} (G : Gw w w') : Tw T W w' v g s1 s2 K := by
  obtain ⟨F, B, sl, h1, h2, h3, h4, h5, h6, h7, h8⟩ := h.ex
  exact ⟨h.gw.trans G, F, B, sl, C.same h1 (fun k hk => G.block k (C.lt h1 hk)), h2.on G, h3, h4, h5, h6, h7, fun p hp => by
    obtain ⟨a, b⟩ := h8 p hp
    exact ⟨(G.block p.1 (lt_of_heap a)).trans a, b⟩⟩
include C in
theorem Tw.box (h : Tw T W w v g s1 s2 K) (o : Obj) : Tw T W (w.alloc o) v g s1 s2 ((w.heap.size, o) :: K) := by
  obtain ⟨F, B, sl, h1, h2, h3, h4, h5, h6, h7, h8⟩ := h.ex
  have G := Gw.alloc w o
  refine ⟨h.gw.trans G, F, B, sl, C.same h1 (fun k hk => G.block k (C.lt h1 hk)), h2.on G, h3, h4, h5, h6, h7, fun p hp => ?_⟩
  rcases List.mem_cons.1 hp with rfl | hp
  · exact ⟨heap_alloc_new w o, fun hk => Nat.lt_irrefl _ (C.lt h1 hk), fun e => by have hx := h2.hd.lt; rw [← show w.heap.size = g from e] at hx; exact Nat.lt_irrefl _ hx, fun e => Nat.lt_irrefl _ (h2.lt _ (.inr e))⟩
  · obtain ⟨a, b⟩ := h8 p hp
    exact ⟨(G.block p.1 (lt_of_heap a)).trans a, b⟩
/-- What is done to the program's tree. -/
theorem Tw.t (h : Tw T W w v g s1 s2 K) : ∃ F, T F w v s1 ∧ ∀ s1' w', Kp T F v s1' w w' → Tw T W w' v g s1' s2 K := by
  obtain ⟨F, B, sl, h1, h2, h3, h4, h5, h6, h7, h8⟩ := h.ex
  refine ⟨F, h1, fun s1' w' k => ?_⟩
  obtain ⟨F', k1, k2⟩ := k.ex
  have hg := h2.hd.lt
  have ho : ∀ b, sl.ownBlock = some b → b < w.heap.size := fun b hb => h2.lt b (.inr hb)
  refine ⟨⟨k.ch.os.trans h.gw.os, rfl, k.ch.output.trans h.gw.output, Nat.le_trans h.gw.size k.ch.size, fun j hj => (k.ch.block j (Nat.lt_of_lt_of_le hj h.gw.size) (fun hf => by have := h3 j hf; omega)).trans (h.gw.block j hj)⟩, F', B, sl, k1, h2.same (fun b hb => ?_), fun j hj => ?_, h4, h5, fun hj => ?_, fun b hb hj => ?_, fun p hp => ?_⟩
  · rcases hb with rfl | hb
    · exact k.ch.block _ hg h6
    · exact k.ch.block _ (ho b hb) (h7 b hb)
  · rcases k2 j hj with h | h'
    · exact h3 j h
    · exact Nat.le_trans h.gw.size h'
  · rcases k2 g hj with h | h'
    · exact h6 h
    · omega
  · have := ho b hb
    rcases k2 b hj with h | h'
    · exact h7 b hb h
    · omega
  · obtain ⟨a, b, c, d⟩ := h8 p hp
    have hl := lt_of_heap a
    refine ⟨(k.ch.block p.1 hl b).trans a, fun hj => ?_, c, d⟩
    rcases k2 p.1 hj with h | h'
    · exact b h
    · omega
include C in
/-- What is done to the document's tree. -/
theorem Tw.m (h : Tw T W w v g s1 s2 K) : ∃ B sl, Hid (RT B w g sl s2) ∧ ∀ s2' w', RTo B w g sl s2' w' → Tw T W w' v g s1 s2' K := by
  obtain ⟨F, B, sl, h1, h2, h3, h4, h5, h6, h7, h8⟩ := h.ex
  refine ⟨B, sl, h2, fun s2' w' k => ?_⟩
  obtain ⟨sl', k1, k2⟩ := k.ex
  refine ⟨⟨k.ch.os.trans h.gw.os, rfl, k.ch.output.trans h.gw.output, Nat.le_trans h.gw.size k.ch.size, fun j hj => (k.ch.block j (Nat.lt_of_lt_of_le hj h.gw.size) (fun e => by omega) (fun e => by have := h5 j e; omega)).trans (h.gw.block j hj)⟩, F, B, sl', C.same h1 (fun j hj => k.ch.block j (C.lt h1 hj) (fun e => h6 (e ▸ hj)) (fun e => h7 j e hj)), k1, h3, h4, fun b hb => ?_, h6, fun b hb hj => ?_, fun p hp => ?_⟩
  · rcases k2 b hb with h | h'
    · exact h5 b h
    · exact Nat.le_trans h.gw.size h'
  · rcases k2 b hb with h | h'
    · exact h7 b h hj
    · have := C.lt h1 hj; omega
  · obtain ⟨a, b, c, d⟩ := h8 p hp
    have hl := lt_of_heap a
    refine ⟨(k.ch.block p.1 hl c d).trans a, b, c, fun e => ?_⟩
    rcases k2 p.1 e with h | h'
    · exact d h
    · omega
end
theorem Ok.sml {l : List Itm} (h : Ok l) : Sml l := by
  intro i hi
  have h1 := (name_size (s := bs i.p) (by rw [bs_data]; exact h.nm i hi)).1
  rw [bs_size] at h1
  omega
section
variable {T : TP} (C : TreeC T) {W w : World} {v : Value} {g : Nat} {s1 s2 : St} {K : List (Nat × Obj)} (h : Tw T W w v g s1 s2 K)
include C h
theorem tt_find (hok : Ok s1.l) (hl : s1.l.length ≤ 8) (p : ByteArray) (hp : p.size ≤ 140737488351232) : Calls Try.prog 20 #[v, .string p] w fun e w' => e = .returned (fV (findT s1.l p.data.toList)) ∧ Tw T W w' v g s1 s2 K := by
  obtain ⟨F, hF, k⟩ := h.t
  exact (C.find p hF hok hl hp).mono fun _ _ ⟨he, hk⟩ => ⟨he, k _ _ hk⟩
theorem tt_make (hok : Ok s1.l) (hl : s1.l.length ≤ 8) (p : ByteArray) (hp : p.size ≤ 140737488351232) (d : Bool) (h0 : 0 ≤ s1.nx) (h1 : s1.nx ≤ 4611686018427387904) : Calls Try.prog 16 #[v, .string p, .bool d] w fun e w' => e = .returned (mV (makeT s1 p.data.toList d).1) ∧ Tw T W w' v g (makeT s1 p.data.toList d).2 s2 K := by
  obtain ⟨F, hF, k⟩ := h.t
  exact (C.make p d hF hok hl hp h0 h1).mono fun _ _ ⟨he, hk⟩ => ⟨he, k _ _ hk⟩
theorem tt_drop (hok : Ok s1.l) (hl : s1.l.length ≤ 8) (p : ByteArray) (hp : p.size ≤ 140737488351232) (d : Bool) : Calls Try.prog 17 #[v, .string p, .bool d] w fun e w' => e = .returned (.int .u16 (dropT s1 p.data.toList d).1) ∧ Tw T W w' v g (dropT s1 p.data.toList d).2 s2 K := by
  obtain ⟨F, hF, k⟩ := h.t
  exact (C.drop p d hF hok hl hp).mono fun _ _ ⟨he, hk⟩ => ⟨he, k _ _ hk⟩
theorem tt_move (hok : Ok s1.l) (hl : s1.l.length ≤ 8) (a b : ByteArray) (ha : a.size ≤ 140737488351232) (hb : b.size ≤ 140737488351232) : Calls Try.prog 18 #[v, .string a, .string b] w fun e w' => e = .returned (mV (moveT s1 a.data.toList b.data.toList).1) ∧ Tw T W w' v g (moveT s1 a.data.toList b.data.toList).2 s2 K := by
  obtain ⟨F, hF, k⟩ := h.t
  exact (C.move a b hF hok hl ha hb).mono fun _ _ ⟨he, hk⟩ => ⟨he, k _ _ hk⟩
theorem tt_many (hok : Ok s1.l) (hl : s1.l.length ≤ 8) (p : ByteArray) (hp : p.size ≤ 140737488351232) : Calls Try.prog 19 #[v, .string p] w fun e w' => e = .returned (.int .u16 (manyT s1.l p.data.toList)) ∧ Tw T W w' v g s1 s2 K := by
  obtain ⟨F, hF, k⟩ := h.t
  exact (C.many p hF hok hl hp).mono fun _ _ ⟨he, hk⟩ => ⟨he, k _ _ hk⟩
theorem tt_len (hok : Ok s1.l) (hl : s1.l.length ≤ 8) : Calls Try.prog 13 #[v] w fun e w' => e = .returned (.int .i64 s1.l.length) ∧ Tw T W w' v g s1 s2 K := by
  obtain ⟨F, hF, k⟩ := h.t
  exact (C.len hF hok hl).mono fun _ _ ⟨he, G⟩ => ⟨he, k _ _ (Kp.of_gw C hF G)⟩
theorem tm_find (p : ByteArray) (hp : p.size ≤ 140737488351232) : Calls Try.prog 24 #[.pointer (some ⟨g, 0, none⟩), .string p] w fun e w' => e = .returned (fV (findT s2.l p.data.toList)) ∧ Tw T W w' v g s1 s2 K := by
  obtain ⟨B, sl, hR, k⟩ := h.m C
  exact (rfind_any hR.out p hp).mono fun _ _ ⟨he, G⟩ => ⟨he, k _ _ (RTo.of_gw hR.out G)⟩
theorem tm_make (p : ByteArray) (hp : p.size ≤ 140737488351232) (d : Bool) (h0 : 0 ≤ s2.nx) (h1 : s2.nx ≤ 4611686018427387904) : Calls Try.prog 25 #[.pointer (some ⟨g, 0, none⟩), .string p, .bool d] w fun e w' => e = .returned (mV (makeT s2 p.data.toList d).1) ∧ Tw T W w' v g s1 (makeT s2 p.data.toList d).2 K := by
  obtain ⟨B, sl, hR, k⟩ := h.m C
  exact (rmake_any hR p hp d h0 h1).mono fun _ _ ⟨he, hk⟩ => ⟨he, k _ _ hk⟩
theorem tm_drop (hok : Ok s2.l) (p : ByteArray) (hp : p.size ≤ 140737488351232) (d : Bool) : Calls Try.prog 26 #[.pointer (some ⟨g, 0, none⟩), .string p, .bool d] w fun e w' => e = .returned (.int .u16 (dropT s2 p.data.toList d).1) ∧ Tw T W w' v g s1 (dropT s2 p.data.toList d).2 K := by
  obtain ⟨B, sl, hR, k⟩ := h.m C
  exact (rdrop_any hR hok.sml p hp d).mono fun _ _ ⟨he, hk⟩ => ⟨he, k _ _ hk⟩
theorem tm_move (a b : ByteArray) (ha : a.size ≤ 140737488351232) (hb : b.size ≤ 140737488351232) : Calls Try.prog 27 #[.pointer (some ⟨g, 0, none⟩), .string a, .string b] w fun e w' => e = .returned (mV (moveT s2 a.data.toList b.data.toList).1) ∧ Tw T W w' v g s1 (moveT s2 a.data.toList b.data.toList).2 K := by
  obtain ⟨B, sl, hR, k⟩ := h.m C
  exact (rmove_any hR a b ha hb).mono fun _ _ ⟨he, hk⟩ => ⟨he, k _ _ hk⟩
theorem tm_many (hok : Ok s2.l) (p : ByteArray) (hp : p.size ≤ 140737488351232) : Calls Try.prog 28 #[.pointer (some ⟨g, 0, none⟩), .string p] w fun e w' => e = .returned (.int .u16 (manyT s2.l p.data.toList)) ∧ Tw T W w' v g s1 s2 K := by
  obtain ⟨B, sl, hR, k⟩ := h.m C
  exact (rmany_any hR.out hok.sml p hp).mono fun _ _ ⟨he, G⟩ => ⟨he, k _ _ (RTo.of_gw hR.out G)⟩
end
end Go.Proofs.Ytlnobekjcengfaa
