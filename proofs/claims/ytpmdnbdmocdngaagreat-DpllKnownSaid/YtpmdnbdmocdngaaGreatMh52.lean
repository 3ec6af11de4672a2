/-
  Parts of the proof, joined: DpllLo.
-/
import Derived.Test.YtpmdnbdmocdngaaGreatMh51

namespace Go.Proofs.YtpmdnbdmocdngaaGreat
open Go.ChangeShapes Go.WideShapes Go.ChangeAt Go.RowKit
set_option linter.unusedVariables false
set_option linter.unusedSimpArgs false

def RowsU (w1 wr : World) (vs : List Value) (gl : List (List Int)) : Prop := vs.length = gl.length ∧ ∀ (i : Nat) (c : List Int), gl[i]? = some c → ∃ B cap, vs[i]? = some (.slice B c.length cap) ∧ wr.ownsRow w1.heap.size 3 1 (.slice B c.length cap) c.length (ints c)
theorem RowsU.keep {w1 w wp : World} {vs : List Value} {gl : List (List Int)} (h : RowsU w1 w vs gl) (k : ∀ (g : Nat) (cs : Array Value), w.heap[g]? = some (.cells cs 3 (0, 0)) → wp.heap[g]? = w.heap[g]?) : RowsU w1 wp vs gl :=
  ⟨h.1, fun i c hc => by
    obtain ⟨B, cap, h1, h2⟩ := h.2 i c hc
    refine ⟨B, cap, h1, h2.1, ?_⟩
    rcases h2.2 with h0 | ⟨g, c, cur, a, b, d, r⟩
    · exact .inl h0
    · exact .inr ⟨g, c, cur, a, b, (k g cur d).trans d, r⟩⟩
theorem RowsU.snoc {w1 w : World} {vs : List Value} {gl : List (List Int)} {B : Option Addr} {cap : Nat} {c : List Int} (h : RowsU w1 w vs gl) (k : w.ownsRow w1.heap.size 3 1 (.slice B c.length cap) c.length (ints c)) : RowsU w1 w (vs ++ [.slice B c.length cap]) (gl ++ [c]) := by
  refine ⟨by rw [List.length_append, List.length_append, h.1]; rfl, fun i d hd => ?_⟩
  by_cases hi : i < gl.length
  · rw [List.getElem?_append_left hi] at hd
    rw [List.getElem?_append_left (by rw [h.1]; exact hi)]; exact h.2 i d hd
  · have hi2 := (List.getElem?_eq_some_iff.1 hd).1
    simp at hi2
    obtain rfl : i = gl.length := by omega
    simp at hd; subst hd
    exact ⟨B, cap, by rw [← h.1]; simp, k⟩
theorem RowsU.ok {w1 w : World} {vs : List Value} {gl : List (List Int)} (h : RowsU w1 w vs gl) (hl : ∀ c ∈ gl, c.length ≤ 9223372036854775807) : RowsOK w vs gl :=
  ⟨h.1, fun i c hc => by
    obtain ⟨B, cap, h1, h2⟩ := h.2 i c hc
    exact ⟨B, cap, h1, seq_own h2, hl c (List.mem_of_getElem? hc)⟩⟩
theorem row_belowU {w X : World} {b n : Nat} {e : TypeId} {v : Value} {xs : List Value} (h : w.ownsRow b e 1 v n xs) (k : Below w.heap.size w X) : X.ownsRow b e 1 v n xs := by
  refine ⟨h.1, ?_⟩
  rcases h.2 with h0 | ⟨g, c, cur, a, b, d, r⟩
  · exact .inl h0
  · exact .inr ⟨g, c, cur, a, b, (k.block g (lt_of_heap d)).trans d, r⟩
theorem own_apartU {w w' : World} {b n : Nat} {v : Value} {xs : List Value} (h : w.ownsRow b 36 1 v n xs) (hg : w.grownBy w' v.ownBlock) : ∀ (g : Nat) (cs : Array Value), w.heap[g]? = some (.cells cs 3 (0, 0)) → w'.heap[g]? = w.heap[g]? := fun g cs hc => by
  refine hg.block g (lt_of_heap hc) fun e => ?_
  rcases h.2 with ⟨h0, _⟩ | ⟨g', c, cur, h0, _, hh, _⟩
  · rw [h0] at e; cases e
  · rw [h0] at e; injection e with e
    have e' : g = g' := e
    subst e'
    rw [hc] at hh; injection hh with hh; injection hh with _ hh _
    exact absurd hh (by decide)
theorem own_base {w : World} {b b' n : Nat} {e : TypeId} {v : Value} {xs : List Value} (h : w.ownsRow b e 1 v n xs) (k : b' ≤ b) : w.ownsRow b' e 1 v n xs := by
  refine ⟨h.1, ?_⟩
  rcases h.2 with h0 | ⟨g, c, cur, a, b, r⟩
  · exact .inl h0
  · exact .inr ⟨g, c, cur, a, Nat.le_trans k b, r⟩
theorem rows_next {w1 wo wr wp : World} {G C : Option Addr} {L gc cc g1 c1 : Nat} {vs : List Value} {gl : List (List Int)} {d : List Int} {o : Obj} (R : LRel w1 wo 36 (.slice G L gc) vs) (hvl : vs.length = L) (I : RowsU w1 wo vs gl)
    (S : LRel wo wr 3 (.slice C d.length cc) (ints d)) (hg1 : (wr.alloc o).grownBy wp (Value.slice G L gc).ownBlock) (hown1 : wp.ownsRow w1.heap.size 36 1 (.slice (some ⟨g1, 0, none⟩) (L + 1) c1) (L + 1) (vs ++ [.slice C d.length cc])) :
    LRel w1 wp 36 (.slice (some ⟨g1, 0, none⟩) (L + 1) c1) (vs ++ [.slice C d.length cc]) ∧ RowsU w1 wp (vs ++ [.slice C d.length cc]) (gl ++ [d]) := by
  have bX : Below wo.heap.size wo (wr.alloc o) := S.below.alloc S.below.size o
  have hX := row_belowU R.own bX
  rw [hvl] at hX
  have ap := own_apartU hX hg1
  have hS : (wr.alloc o).ownsRow w1.heap.size 3 1 (.slice C d.length cc) d.length (ints d) := by
    have h := S.own
    rw [List.length_map] at h
    exact own_base (h.alloc o) R.below.size
  have I2 : RowsU w1 (wr.alloc o) (vs ++ [.slice C d.length cc]) (gl ++ [d]) := (I.keep (fun g cs hc => bX.block g (lt_of_heap hc))).snoc hS
  refine ⟨⟨by rw [List.length_append, hvl]; exact hown1, (R.below.trans (bX.mono R.below.size)).grown hg1 (Nat.le_trans R.below.size bX.size) (fun k hk => ?_)⟩, I2.keep ap⟩
  rcases R.own.2 with ⟨h0, _⟩ | ⟨g', c, cur, h0, hb, _⟩
  · rw [h0] at hk; simp [Value.ownBlock] at hk
  · rw [h0] at hk; simp [Value.ownBlock] at hk; omega
end Go.Proofs.YtpmdnbdmocdngaaGreat
