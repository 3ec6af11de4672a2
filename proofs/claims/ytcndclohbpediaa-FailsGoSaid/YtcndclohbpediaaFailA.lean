/-
  What the package fails is to answer, as propositions: a predicate T of a set of blocks; truths that are handed in.
-/
import Derived.Test.YtcndclohbpediaaGenW
namespace Go.Proofs.Ytcndclohbpediaa
open Go.ChangeShapes Go.WideShapes Go.ChangeAt Go.RowKit Go.Joins
set_option linter.unusedVariables false
set_option linter.unusedSimpArgs false

/-- Truths that lie. -/
def BlA (W : World) (v : Value) (l : List Bool) : Prop := ∃ A cap, v = .slice A l.length cap ∧ l.length ≤ cap ∧ cap ≤ 9223372036854775807 ∧
  ∀ (i : Nat) b, l[i]? = some b → ∃ g off, A = some ⟨g, off, none⟩ ∧ W.cell? ⟨g, off + i, none⟩ = some (.bool b)
theorem BlA.nil (W : World) : BlA W (.slice none 0 0) [] := ⟨none, 0, rfl, Nat.le_refl _, by decide, fun i b h => by simp at h⟩
theorem BlA.on {w w' : World} {v : Value} {l : List Bool} (h : BlA w v l) (G : Gw w w') : BlA w' v l := by
  obtain ⟨A, cap, h1, h2, h3, h4⟩ := h
  refine ⟨A, cap, h1, h2, h3, fun i b hi => ?_⟩
  obtain ⟨g, off, a, c⟩ := h4 i b hi
  exact ⟨g, off, a, G.cell c⟩
theorem BlA.row {w : World} {g : Nat} {t : TypeId} {l : List Bool} (h : Has w g t (l.map Value.bool).toArray) (hl : l.length ≤ 9223372036854775807) : BlA w (.slice (some ⟨g, 0, none⟩) l.length l.length) l :=
  ⟨_, l.length, rfl, Nat.le_refl _, hl, fun i b hi => ⟨g, 0, rfl, by
    rw [Nat.zero_add, h.cell i, List.getElem?_toArray, List.getElem?_map, hi]
    rfl⟩⟩
/-- Nothing but the blocks of F has changed. -/
structure Chl (F : Nat → Prop) (W W' : World) : Prop where
  os : W'.os = W.os
  output : W'.output = W.output
  size : W.heap.size ≤ W'.heap.size
  block : ∀ k, k < W.heap.size → ¬ F k → W'.heap[k]? = W.heap[k]?
abbrev FlP := (Nat → Prop) → World → Value → List Bool → Nat → Prop
/-- What was done to one has been done to it alone. -/
structure Kpl (T : FlP) (F : Nat → Prop) (v : Value) (l : List Bool) (i : Nat) (W W' : World) : Prop where
  ch : Chl F W W'
  ex : ∃ F', T F' W' v l i ∧ ∀ k, F' k → F k ∨ W.heap.size ≤ k
def mayF (l : List Bool) (c m : Int) : Bool := decide (0 ≤ c) && decide (c ≤ 6) && decide ((l.length : Int) = c) && decide ((l.countP (fun b => b) : Int) ≤ m)
structure FailC (T : FlP) : Prop where
  lt : ∀ {F W v l i k}, T F W v l i → F k → k < W.heap.size
  same : ∀ {F W W' v l i}, T F W v l i → (∀ k, F k → W'.heap[k]? = W.heap[k]?) → T F W' v l i
  new : ∀ {W x l}, BlA W x l → l.length ≤ 1000 → Calls Try.prog 7 #[x] W fun e W' => ∃ a F, e = .returned (.pointer (some a)) ∧ T F W' (.pointer (some a)) l 0 ∧ Gw W W' ∧ ∀ k, F k → W.heap.size ≤ k
  next : ∀ {F W v l i}, T F W v l i → Calls Try.prog 8 #[v] W fun e W' => e = .returned (.bool (l[i]?.getD false)) ∧ Kpl T F v l (min (i + 1) l.length) W W'
  used : ∀ {F W v l i}, T F W v l i → Calls Try.prog 9 #[v] W fun e W' => e = .returned (.int .i64 (i : Int)) ∧ Kpl T F v l i W W'
  may : ∀ {W x l} (c m : Int), BlA W x l → l.length ≤ 1000 → (Lit.int .i64 c).wf = true → (Lit.int .i64 m).wf = true → Calls Try.prog 10 #[x, .int .i64 c, .int .i64 m] W fun e W' => e = .returned (.bool (mayF l c m)) ∧ Gw W W'
/-- One that the law has made. -/
structure Ml (T : FlP) (W w : World) (v : Value) (l : List Bool) (i : Nat) : Prop where
  gw : Gw W w
  ex : ∃ F, T F w v l i ∧ ∀ k, F k → W.heap.size ≤ k
theorem Ml.on {T : FlP} (C : FailC T) {W w w' : World} {v : Value} {l : List Bool} {i : Nat} (M : Ml T W w v l i) (G : Gw w w') : Ml T W w' v l i := by
  obtain ⟨F, h, hF⟩ := M.ex
  exact ⟨M.gw.trans G, F, C.same h (fun k hk => G.block k (C.lt h hk)), hF⟩
theorem Ml.step {T : FlP} {W w w' : World} {v : Value} {l : List Bool} {i : Nat} {F : Nat → Prop} (G : Gw W w) (hF : ∀ k, F k → W.heap.size ≤ k) (k : Kpl T F v l i w w') : Ml T W w' v l i := by
  obtain ⟨F', h1, h2⟩ := k.ex
  refine ⟨⟨k.ch.os.trans G.os, rfl, k.ch.output.trans G.output, Nat.le_trans G.size k.ch.size, fun j hj => (k.ch.block j (Nat.lt_of_lt_of_le hj G.size) (fun hf => by have := hF j hf; omega)).trans (G.block j hj)⟩, F', h1, fun j hj => ?_⟩
  rcases h2 j hj with h | h
  · exact hF j h
  · exact Nat.le_trans G.size h
section
variable {T : FlP} (C : FailC T) {W w : World} {v : Value} {l : List Bool} {i : Nat}
include C
theorem l_new (G : Gw W w) {x : Value} (hx : BlA w x l) (hl : l.length ≤ 1000) : Calls Try.prog 7 #[x] w fun e w' => ∃ a, e = .returned (.pointer (some a)) ∧ Ml T W w' (.pointer (some a)) l 0 :=
  (C.new hx hl).mono fun e w' ⟨a, F, he, h, G', hF⟩ => ⟨a, he, G.trans G', F, h, fun k hk => Nat.le_trans G.size (hF k hk)⟩
theorem l_next (M : Ml T W w v l i) : Calls Try.prog 8 #[v] w fun e w' => e = .returned (.bool (l[i]?.getD false)) ∧ Ml T W w' v l (min (i + 1) l.length) := by
  obtain ⟨F, h, hF⟩ := M.ex
  exact (C.next h).mono fun e w' ⟨he, k⟩ => ⟨he, Ml.step M.gw hF k⟩
theorem l_used (M : Ml T W w v l i) : Calls Try.prog 9 #[v] w fun e w' => e = .returned (.int .i64 (i : Int)) ∧ Ml T W w' v l i := by
  obtain ⟨F, h, hF⟩ := M.ex
  exact (C.used h).mono fun e w' ⟨he, k⟩ => ⟨he, Ml.step M.gw hF k⟩
end
/-- Two that the law has made. -/
structure M2 (T : FlP) (W w : World) (v : Value) (l : List Bool) (i : Nat) (v' : Value) (l' : List Bool) (i' : Nat) : Prop where
  gw : Gw W w
  ex : ∃ F F', T F w v l i ∧ T F' w v' l' i' ∧ (∀ k, F k → W.heap.size ≤ k ∧ ¬ F' k) ∧ ∀ k, F' k → W.heap.size ≤ k
theorem M2.swap {T : FlP} {W w : World} {v : Value} {l : List Bool} {i : Nat} {v' : Value} {l' : List Bool} {i' : Nat} (M : M2 T W w v l i v' l' i') : M2 T W w v' l' i' v l i := by
  obtain ⟨F, F', h, h', h1, h2⟩ := M.ex
  exact ⟨M.gw, F', F, h', h, fun k hk => ⟨h2 k hk, fun hf => (h1 k hf).2 hk⟩, fun k hk => (h1 k hk).1⟩
section
variable {T : FlP} (C : FailC T) {W w : World} {v : Value} {l : List Bool} {i : Nat} {v' : Value} {l' : List Bool} {i' : Nat}
include C
theorem M2.on (M : M2 T W w v l i v' l' i') {w' : World} (G : Gw w w') : M2 T W w' v l i v' l' i' := by
  obtain ⟨F, F', h, h', h1, h2⟩ := M.ex
  exact ⟨M.gw.trans G, F, F', C.same h (fun k hk => G.block k (C.lt h hk)), C.same h' (fun k hk => G.block k (C.lt h' hk)), h1, h2⟩
theorem M2.step {j : Nat} (M : M2 T W w v l i v' l' i') {w' : World} {e : Ending} {F F' : Nat → Prop} (h : T F w v l i) (h' : T F' w v' l' i') (h1 : ∀ k, F k → W.heap.size ≤ k ∧ ¬ F' k) (h2 : ∀ k, F' k → W.heap.size ≤ k) (k : Kpl T F v l j w w') : M2 T W w' v l j v' l' i' := by
  obtain ⟨F1, q1, q2⟩ := k.ex
  have hn : ∀ b, F' b → w'.heap[b]? = w.heap[b]? := fun b hb => k.ch.block b (C.lt h' hb) (fun hf => (h1 b hf).2 hb)
  refine ⟨⟨k.ch.os.trans M.gw.os, rfl, k.ch.output.trans M.gw.output, Nat.le_trans M.gw.size k.ch.size, fun b hb => (k.ch.block b (Nat.lt_of_lt_of_le hb M.gw.size) (fun hf => by have := (h1 b hf).1; omega)).trans (M.gw.block b hb)⟩, F1, F', q1, C.same h' hn, fun b hb => ?_, h2⟩
  rcases q2 b hb with q | q
  · exact h1 b q
  · exact ⟨Nat.le_trans M.gw.size q, fun hf => by have := C.lt h' hf; omega⟩
theorem m2_next (M : M2 T W w v l i v' l' i') : Calls Try.prog 8 #[v] w fun e w' => e = .returned (.bool (l[i]?.getD false)) ∧ M2 T W w' v l (min (i + 1) l.length) v' l' i' := by
  obtain ⟨F, F', h, h', h1, h2⟩ := M.ex
  exact (C.next h).mono fun e w' ⟨he, k⟩ => ⟨he, M.step C (e := e) h h' h1 h2 k⟩
theorem m2_used (M : M2 T W w v l i v' l' i') : Calls Try.prog 9 #[v] w fun e w' => e = .returned (.int .i64 (i : Int)) ∧ M2 T W w' v l i v' l' i' := by
  obtain ⟨F, F', h, h', h1, h2⟩ := M.ex
  exact (C.used h).mono fun e w' ⟨he, k⟩ => ⟨he, M.step C (e := e) h h' h1 h2 k⟩
theorem m2_new (M : Ml T W w v l i) {x : Value} (hx : BlA w x l') (hl : l'.length ≤ 1000) : Calls Try.prog 7 #[x] w fun e w' => ∃ a, e = .returned (.pointer (some a)) ∧ M2 T W w' v l i (.pointer (some a)) l' 0 := by
  obtain ⟨F, h, hF⟩ := M.ex
  exact (C.new hx hl).mono fun e w' ⟨a, F', he, h', G', hF'⟩ => ⟨a, he, M.gw.trans G', F, F', C.same h (fun k hk => G'.block k (C.lt h hk)), h', fun k hk => ⟨hF k hk, fun hf => by have := C.lt h hk; have := hF' k hf; omega⟩, fun k hk => Nat.le_trans M.gw.size (hF' k hk)⟩
end
end Go.Proofs.Ytcndclohbpediaa
