/-
  A tree that a law has made, beside one block of the law's own; slices of bytes, as they lie.
-/
import Derived.Test.YtlnobekjcengfaaTreeX
import Derived.Test.YtlnobekjcengfaaTreeL
namespace Go.Proofs.Ytlnobekjcengfaa
open Go.ChangeShapes Go.WideShapes Go.ChangeAt Go.RowKit Go.Joins
set_option linter.unusedVariables false
set_option linter.unusedSimpArgs false

/-- A tree that the call has made, and a block that it has laid beside it. -/
structure Mg (T : TP) (W w : World) (v : Value) (s : St) (g : Nat) (o : Obj) : Prop where
  gw : Gw W w
  hg : w.heap[g]? = some o
  hW : W.heap.size ≤ g
  ex : ∃ F, T F w v s ∧ (∀ k, F k → W.heap.size ≤ k) ∧ ¬ F g
section
variable {T : TP} {W w : World} {v : Value} {s : St} {g : Nat} {o : Obj}
theorem Mg.lt (M : Mg T W w v s g o) : g < w.heap.size := lt_of_heap M.hg
theorem Mn.alloc (C : TreeC T) (M : Mn T W w v s) (o : Obj) : Mg T W (w.alloc o) v s w.heap.size o := by
  obtain ⟨F, h, hF⟩ := M.ex
  exact ⟨M.gw.trans (Gw.alloc _ _), heap_alloc_new w o, M.gw.size, F, C.same h (fun k hk => (Gw.alloc w o).block k (C.lt h hk)), hF, fun hk => Nat.lt_irrefl _ (C.lt h hk)⟩
theorem Mg.on (C : TreeC T) (M : Mg T W w v s g o) {w' : World} (G : Gw w w') : Mg T W w' v s g o := by
  obtain ⟨F, h, hF, hg⟩ := M.ex
  exact ⟨M.gw.trans G, (G.block g M.lt).trans M.hg, M.hW, F, C.same h (fun k hk => G.block k (C.lt h hk)), hF, hg⟩
theorem Mg.put (C : TreeC T) {cs : Array Value} {t : TypeId} (M : Mg T W w v s g (.cells cs t (0, 0))) (i : Nat) (u : Value) : Mg T W (w.setCell ⟨g, i, none⟩ u) v s g (.cells (cs.setIfInBounds i u) t (0, 0)) := by
  obtain ⟨F, h, hF, hg⟩ := M.ex
  exact ⟨(But.set g w i u).gw M.gw M.hW, heap_setCell_same w g i cs t u M.hg, M.hW, F, C.same h (fun k hk => set_other (p := ⟨g, i, none⟩) (fun e => hg (by rw [show k = g from e] at hk; exact hk))), hF, hg⟩
theorem Mg.next (M : Mg T W w v s g o) {F : Nat → Prop} (hF : ∀ k, F k → W.heap.size ≤ k) (hg : ¬ F g) {w' : World} {s' : St} (k : Kp T F v s' w w') : Mg T W w' v s' g o := by
  obtain ⟨F', h1, h2⟩ := k.ex
  have hs := M.lt
  refine ⟨⟨k.ch.os.trans M.gw.os, rfl, k.ch.output.trans M.gw.output, Nat.le_trans M.gw.size k.ch.size, fun j hj => (k.ch.block j (Nat.lt_of_lt_of_le hj M.gw.size) (fun hf => by have := hF j hf; omega)).trans (M.gw.block j hj)⟩, (k.ch.block g hs hg).trans M.hg, M.hW, F', h1, fun j hj => ?_, fun hj => ?_⟩
  · rcases h2 j hj with h | h
    · exact hF j h
    · exact Nat.le_trans M.gw.size h
  · rcases h2 g hj with h | h
    · exact hg h
    · omega
theorem g_find (C : TreeC T) (M : Mg T W w v s g o) (hok : Ok s.l) (hlen : s.l.length ≤ 8) (p : ByteArray) (hp : p.size ≤ 140737488351232) : Calls Try.prog 20 #[v, .string p] w fun e w' => e = .returned (fV (findT s.l p.data.toList)) ∧ Mg T W w' v s g o := by
  obtain ⟨F, h, hF, hg⟩ := M.ex
  exact (C.find p h hok hlen hp).mono fun _ _ ⟨he, k⟩ => ⟨he, M.next hF hg k⟩
theorem g_make (C : TreeC T) (M : Mg T W w v s g o) (hok : Ok s.l) (hlen : s.l.length ≤ 8) (p : ByteArray) (hp : p.size ≤ 140737488351232) (d : Bool) (h0 : 0 ≤ s.nx) (h1 : s.nx ≤ 4611686018427387904) : Calls Try.prog 16 #[v, .string p, .bool d] w fun e w' => e = .returned (mV (makeT s p.data.toList d).1) ∧ Mg T W w' v (makeT s p.data.toList d).2 g o := by
  obtain ⟨F, h, hF, hg⟩ := M.ex
  exact (C.make p d h hok hlen hp h0 h1).mono fun _ _ ⟨he, k⟩ => ⟨he, M.next hF hg k⟩
theorem g_drop (C : TreeC T) (M : Mg T W w v s g o) (hok : Ok s.l) (hlen : s.l.length ≤ 8) (p : ByteArray) (hp : p.size ≤ 140737488351232) (d : Bool) : Calls Try.prog 17 #[v, .string p, .bool d] w fun e w' => e = .returned (.int .u16 (dropT s p.data.toList d).1) ∧ Mg T W w' v (dropT s p.data.toList d).2 g o := by
  obtain ⟨F, h, hF, hg⟩ := M.ex
  exact (C.drop p d h hok hlen hp).mono fun _ _ ⟨he, k⟩ => ⟨he, M.next hF hg k⟩
theorem g_move (C : TreeC T) (M : Mg T W w v s g o) (hok : Ok s.l) (hlen : s.l.length ≤ 8) (a b : ByteArray) (ha : a.size ≤ 140737488351232) (hb : b.size ≤ 140737488351232) : Calls Try.prog 18 #[v, .string a, .string b] w fun e w' => e = .returned (mV (moveT s a.data.toList b.data.toList).1) ∧ Mg T W w' v (moveT s a.data.toList b.data.toList).2 g o := by
  obtain ⟨F, h, hF, hg⟩ := M.ex
  exact (C.move a b h hok hlen ha hb).mono fun _ _ ⟨he, k⟩ => ⟨he, M.next hF hg k⟩
theorem g_many (C : TreeC T) (M : Mg T W w v s g o) (hok : Ok s.l) (hlen : s.l.length ≤ 8) (p : ByteArray) (hp : p.size ≤ 140737488351232) : Calls Try.prog 19 #[v, .string p] w fun e w' => e = .returned (.int .u16 (manyT s.l p.data.toList)) ∧ Mg T W w' v s g o := by
  obtain ⟨F, h, hF, hg⟩ := M.ex
  exact (C.many p h hok hlen hp).mono fun _ _ ⟨he, k⟩ => ⟨he, M.next hF hg k⟩
theorem g_len (C : TreeC T) (M : Mg T W w v s g o) (hok : Ok s.l) (hlen : s.l.length ≤ 8) : Calls Try.prog 13 #[v] w fun e w' => e = .returned (.int .i64 s.l.length) ∧ Mg T W w' v s g o := by
  obtain ⟨F, h, hF, hg⟩ := M.ex
  exact (C.len h hok hlen).mono fun _ _ ⟨he, G⟩ => ⟨he, M.next hF hg (Kp.of_gw C h G)⟩
end
/-- A slice of bytes, as it lies. -/
def ByIn (W : World) (A : Option Addr) (l : List Nat) : Prop := ∀ (i z : Nat), l[i]? = some z → ∃ g off, A = some ⟨g, off, none⟩ ∧ g < W.heap.size ∧ W.cell? ⟨g, off + i, none⟩ = some (.int .u8 (z : Int)) ∧ z ≤ 255
theorem ByIn.on {W W' : World} {A : Option Addr} {l : List Nat} (h : ByIn W A l) (G : Gw W W') : ByIn W' A l := fun i z hz => by
  obtain ⟨g, off, h1, h2, h3, h4⟩ := h i z hz
  exact ⟨g, off, h1, Nat.lt_of_lt_of_le h2 G.size, G.cell h3, h4⟩
/-! ### Names of one letter -/
/-- The letter of that number. -/
def lt1 (k : Nat) : List UInt8 := [UInt8.ofNat (97 + k)]
theorem lt1_name {k : Nat} (h : k < 26) : nameB (lt1 k) = true ∧ spl (lt1 k) = ([], lt1 k) := by
  have : ∀ k : Fin 26, nameB (lt1 k) = true ∧ spl (lt1 k) = ([], lt1 k) := by decide +kernel
  exact this ⟨k, h⟩
theorem lt1_inj {j k : Nat} (hj : j < 26) (hk : k < 26) (h : lt1 j = lt1 k) : j = k := by
  have : ∀ j k : Fin 26, lt1 j = lt1 k → j = k := by decide +kernel
  exact Fin.mk.inj_iff.1 (this ⟨j, hj⟩ ⟨k, hk⟩ h)
theorem lt1_abv {k : Nat} (h : k < 26) (l : List Itm) : abv l (lt1 k) = 0 := by unfold abv; rw [(lt1_name h).2]; rfl
end Go.Proofs.Ytlnobekjcengfaa
