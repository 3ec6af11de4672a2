/-
  Blocks by themselves: what a block holds, what a call keeps but for one block; rows of the call's own.
-/
import Derived.Test.YthjbjbbbbdhcmaaProgG
import Derived.Laws.Rows
namespace Go.Proofs.Ythjbjbbbbdhcmaa
open Go.ChangeShapes Go.WideShapes Go.ChangeAt Go.RowKit Go.Joins
set_option linter.unusedVariables false

theorem set_other {w : World} {p : Addr} {u : Value} {k : Nat} (h : k ≠ p.block) : (w.setCell p u).heap[k]? = w.heap[k]? := Below.heap_setCell w p u k h
/-- A block's cells. -/
def Has (w : World) (g : Nat) (t : TypeId) (cs : Array Value) : Prop := w.heap[g]? = some (.cells cs t (0, 0))
section
variable {w w' : World} {g : Nat} {t : TypeId} {cs : Array Value}
theorem lt_of_heap {o : Obj} (h : w.heap[g]? = some o) : g < w.heap.size := (Array.getElem?_eq_some_iff.1 h).1
theorem Has.lt (h : Has w g t cs) : g < w.heap.size := lt_of_heap h
theorem Has.cell (h : Has w g t cs) (i : Nat) : w.cell? ⟨g, i, none⟩ = cs[i]? := by unfold World.cell?; rw [show w.heap[g]? = _ from h]; rfl
theorem Has.free (h : Has w g t cs) (i : Nat) : w.frozen? ⟨g, i, none⟩ = false := by unfold World.frozen?; rw [show w.heap[g]? = _ from h]; simp
theorem Has.new (w : World) (t : TypeId) (cs : Array Value) : Has (w.alloc (.cells cs t)) w.heap.size t cs := heap_alloc_new w _
theorem Has.same (h : Has w g t cs) (e : w'.heap[g]? = w.heap[g]?) : Has w' g t cs := Eq.trans e h
theorem Has.put (h : Has w g t cs) (i : Nat) (u : Value) : Has (w.setCell ⟨g, i, none⟩ u) g t (cs.setIfInBounds i u) := heap_setCell_same w g i cs t u h
theorem Has.on (h : Has w g t cs) (G : Gw w w') : Has w' g t cs := h.same (G.block g h.lt)
end
theorem size_alloc (w : World) (o : Obj) : (w.alloc o).heap.size = w.heap.size + 1 := by show (w.heap.push o).size = _; simp
/-- All is as it was but block g; new blocks may be there. -/
structure But (g : Nat) (W W' : World) : Prop where
  os : W'.os = W.os
  output : W'.output = W.output
  size : W.heap.size ≤ W'.heap.size
  block : ∀ k, k < W.heap.size → k ≠ g → W'.heap[k]? = W.heap[k]?
theorem But.refl (g : Nat) (W : World) : But g W W := ⟨rfl, rfl, Nat.le_refl _, fun _ _ _ => rfl⟩
theorem But.trans {g : Nat} {a b c : World} (h : But g a b) (k : But g b c) : But g a c :=
  ⟨k.os.trans h.os, k.output.trans h.output, Nat.le_trans h.size k.size, fun i hi hg => (k.block i (Nat.lt_of_lt_of_le hi h.size) hg).trans (h.block i hi hg)⟩
theorem But.set (g : Nat) (W : World) (i : Nat) (u : Value) : But g W (W.setCell ⟨g, i, none⟩ u) :=
  ⟨rfl, rfl, by simp, fun k _ hk => set_other (p := ⟨g, i, none⟩) hk⟩
theorem But.gw {g : Nat} {w0 W W' : World} (h : But g W W') (G : Gw w0 W) (hg : w0.heap.size ≤ g) : Gw w0 W' :=
  ⟨h.os.trans G.os, rfl, h.output.trans G.output, Nat.le_trans G.size h.size, fun k hk => (h.block k (Nat.lt_of_lt_of_le hk G.size) (by omega)).trans (G.block k hk)⟩
theorem Gw.but {g : Nat} {W W' : World} (h : Gw W W') : But g W W' := ⟨h.os, h.output, h.size, fun k hk _ => h.block k hk⟩
theorem But.has {g k : Nat} {W W' : World} {t : TypeId} {cs : Array Value} (h : But g W W') (hk : k ≠ g) (hh : Has W k t cs) : Has W' k t cs := hh.same (h.block k hh.lt hk)
/-- A row of the call's own, kept. -/
theorem own_keep {w w' : World} {base : Nat} {e : TypeId} {size n : Nat} {v : Value} {xs : List Value} (h : w.ownsRow base e size v n xs) (k : ∀ b, base ≤ b → b < w.heap.size → w'.heap[b]? = w.heap[b]?) : w'.ownsRow base e size v n xs := by
  refine ⟨h.1, ?_⟩
  rcases h.2 with h0 | ⟨b, cap, cur, h0, h1, h2, h3⟩
  · exact .inl h0
  · exact .inr ⟨b, cap, cur, h0, h1, (k b h1 (lt_of_heap h2)).trans h2, h3⟩
theorem box1 {W : World} {pb : Nat} {t : TypeId} {a v : Value} (h : Has W pb t #[a, v]) : W.cell? ⟨pb, 1, none⟩ = some v ∧ W.frozen? ⟨pb, 1, none⟩ = false := ⟨h.cell 1, h.free 1⟩
theorem box0 {W : World} {pb : Nat} {t : TypeId} {a v : Value} (h : Has W pb t #[a, v]) : W.cell? ⟨pb, 0, none⟩ = some a ∧ W.frozen? ⟨pb, 0, none⟩ = false := ⟨h.cell 0, h.free 0⟩
theorem toG {S : World → Prop} (hS : ∀ a b, S a → Gw a b → S b) {f : FuncId} {args : Array Value} {v : Value} {n : InP S} (h : Calls Try.prog f args n.val fun e w' => e = .returned v ∧ Gw n.val w') :
    Calls Try.prog f args n.val fun e w'' => e = .returned v ∧ ∃ m : InP S, w'' = m.val :=
  h.mono fun _ w' ⟨he, G⟩ => ⟨he, ⟨w', hS _ _ n.ok G⟩, rfl⟩
theorem POk.gw {W W' : World} {A B : Option Addr} {L : List (Int × Int)} {N : List ByteArray} {ca cb : Nat} (h : POk W A L ca B N cb) (g : Gw W W') : POk W' A L ca B N cb := h.keep (fun k hk => g.block k hk) g.size
theorem small_is {L : List (Int × Int)} {N : List ByteArray} (h : smallB L N = true) : L.length ≤ 500 ∧ N.length ≤ 100 ∧ total N ≤ 5000 := by
  unfold smallB at h
  simp only [Bool.and_eq_true, decide_eq_true_eq] at h
  exact ⟨h.1.1, h.1.2, h.2⟩
end Go.Proofs.Ythjbjbbbbdhcmaa
