/-
  Clone of the library at rows of numbers, and newChain of package unit: the chain of a formula.
-/
import Derived.Test.YtigomnbcalpohaaUnitG
import Derived.Deep.OwnRows
import Derived.Laws.AppendOwnNone
namespace Go.Proofs.Ytigomnbcalpohaa
open Go.ChangeShapes Go.WideShapes Go.ChangeAt Go.RowKit
set_option linter.unusedVariables false

set_option maxHeartbeats 800000 in
theorem clone_any (A : Option Addr) (m : List Int) (cap : Nat) (W : World) (hm : SeqAt (Value.int .i64) W A m) (hl : m.length ≤ 65536) (hnil : A = none → m.length = 0 ∧ cap = 0) :
    Calls Try.prog 25 #[.slice A m.length cap] W fun e W' => ∃ v, e = .returned v ∧ LRel W W' 3 v (ints m) := by
  cases A with
  | none =>
    obtain ⟨h1, rfl⟩ := hnil rfl
    have hm0 : m = [] := List.eq_nil_of_length_eq_zero h1
    subst hm0
    go_enter Try.func25, Try.ntmps25
    have hq : ∀ w, (binOp .eql 23 (.slice none 0 0) (.slice none 0 0)).run Try.prog w = .ok (.bool true) w := fun w => by kernel_rfl
    go_wp2
    go_ret
    exact ⟨_, rfl, LRel.nil W _⟩
  | some a =>
    obtain ⟨i0, hi0, hz0, hz1, hz2⟩ := info_parts infoInt
    have HI := Lib.hid (show _ ∧ _ ∧ _ ∧ _ from ⟨hi0, hz0, hz1, hz2⟩)
    have BX : Below W.heap.size W (W.alloc (.cells #[] 3)) := (Below.refl _ _).alloc (Nat.le_refl _) _
    have HM := Lib.hid (hm.keep BX)
    have HBX := Lib.hid BX
    have HO : Hid ((W.alloc (.cells #[] 3)).ownsRow W.heap.size 3 1 (.slice (some ⟨W.heap.size, 0, none⟩) 0 0) 0 []) := ⟨rfl, .inr ⟨W.heap.size, 0, #[], rfl, Nat.le_refl _, new_heap W _, Nat.le_refl _, Nat.zero_le _, rfl, rfl⟩⟩
    clear hi0 hz0 hz1 hz2 hm BX hnil
    have hq : ∀ w, (binOp .eql 23 (.slice (some a) m.length cap) (.slice none 0 0)).run Try.prog w = .ok (.bool false) w := fun w => by kernel_rfl
    go_enter Try.func25, Try.ntmps25
    go_wp2_with (at_builtin; refine wpList_append_own _ rfl _ _ _ rfl W.heap.size 3 i0 _ 1 8 Try.underlying23 HI.out.1 HI.out.2.1 HI.out.2.2.1 HI.out.2.2.2 rfl (by omega) (.slice (some ⟨W.heap.size, 0, none⟩) 0 0) 0 [] rfl HO.out a m.length cap (ints m) rfl (by simp) (fun j u hu => by
      rw [List.getElem?_map] at hu
      obtain ⟨z, hz, rfl⟩ := Option.map_eq_some_iff.1 hu
      obtain ⟨a', ha, hc⟩ := HM.out.get j z hz
      injection ha with ha; subst ha; exact hc) (fun u hu => by obtain ⟨z, _, rfl⟩ := List.mem_map.1 hu; rfl) (by unfold maxLen; omega) (by omega) (by simp) ?_; intro v1 w1 hown1 hg1 _; have HO1 := Lib.hid hown1; have HG1 := Lib.hid hg1; clear hown1 hg1)
    go_ret
    refine ⟨v1, by first | rfl | skip, ?_, HBX.out.grown HG1.out (by simp) (fun k hk => by injection hk with hk; have hk' : W.heap.size = k := hk; omega)⟩
    have := HO1.out
    simp only [Nat.zero_add, List.nil_append] at this
    rw [List.length_map]; exact this
section
variable {B : Nat} {τ : Nat → Nat} {W : World} {p n : Nat} {cs : List (List Int)} {lf : List Int} {F : Nat → List Nat} {t hs : List Int} {cv lv wv tv hv : Value}
/-- One more literal holds from the first. -/
theorem held_fin {l : Int} (h : Ch B τ W p n cs lf F t hs cv lv wv tv hv) : ∀ (wp : World) (c g1 : Nat), (W.alloc (.cells #[.int .i64 l] 3)).grownBy wp hv.ownBlock → wp.ownsRow 0 3 1 (.slice (some ⟨g1, 0, none⟩) (hs.length + 1) c) (hs.length + 1) (ints hs ++ [.int .i64 l]) → (hv.ownBlock = some g1 ∨ g1 = W.heap.size + 1) → g1 < wp.heap.size →
    wp.cell? ⟨p, 4, none⟩ = some hv ∧ wp.frozen? ⟨p, 4, none⟩ = false ∧ ∃ τ' hv', Ch B τ' (wp.setCell ⟨p, 4, none⟩ (.slice (some ⟨g1, 0, none⟩) (hs.length + 1) c)) p n cs lf F t (hs ++ [l]) cv lv wv tv hv' ∧ Step (fun r => r = 1 ∨ r = 6) τ τ' W (wp.setCell ⟨p, 4, none⟩ (.slice (some ⟨g1, 0, none⟩) (hs.length + 1) c)) := fun wp c g1 hg ho hat hlt => by
  have b1 : Below W.heap.size W (W.alloc (.cells #[.int .i64 l] 3)) := (Below.refl _ _).alloc (Nat.le_refl _) _
  obtain ⟨τ', k1, k2⟩ := Ch.addH (h.below b1) hg ho (hat.imp id (fun e => by simp; omega)) hlt
  have hb := (h.below b1).blk.grown (h.below b1).hrow (by decide) hg
  exact ⟨hb.cell 4, hb.free 4, τ', _, k1, (Step.of_below _ _ b1).trans k2⟩
end
theorem lrel_form {w wr : World} {e : TypeId} {v : Value} {l : List Value} {n : Nat} (h : LRel w wr e v l) (hn : l.length = n) : ∃ B cap, v = .slice B n cap := by
  subst hn
  rcases h.own.2 with ⟨h1, h2⟩ | ⟨g, c2, cur, h1, _⟩
  · exact ⟨none, 0, by rw [h1, h2]⟩
  · exact ⟨_, _, h1⟩
/-- The chain as it is made: nothing but the truths and the places for clauses' numbers. -/
theorem new_ch {W w1 w2 : World} {p wb : Nat} {tv : Value} {m : List Int} (hB : W.heap.size ≤ wb) (hwb : w2.heap[wb]? = some (.cells (madeCells #[.slice none 0 0] (2 * m.length)) 23 (0, 0))) (ht : w2.ownsRow W.heap.size 3 1 tv m.length (ints m)) (hne : ∀ g, tv.ownBlock = some g → g ≠ wb ∧ g ≠ p)
    (hp : w2.heap[p]? = some (.cells #[.slice none 0 0, .slice none 0 0, .slice (some ⟨wb, 0, none⟩) (2 * m.length) (2 * m.length), tv, .slice none 0 0] 47 (0, 0))) (hpw : p ≠ wb) (hpB : W.heap.size ≤ p) (hb : Below W.heap.size W w2) :
    ∃ τ, Ch W.heap.size τ w2 p m.length [] [] (fun _ => []) m [] (.slice none 0 0) (.slice none 0 0) (.slice (some ⟨wb, 0, none⟩) (2 * m.length) (2 * m.length)) tv (.slice none 0 0) := by
  have nilrow : ∀ (τ : Nat → Nat) (r : Nat) (e : TypeId), Row τ r w2 e (.slice none 0 0) [] := fun τ r e => ⟨⟨rfl, .inl ⟨rfl, rfl⟩⟩, fun g hg => by cases hg⟩
  refine ⟨fun b => if b < W.heap.size then 0 else if b = p then 1 else if b = wb then 4 else 5, ⟨hb.size, fun b hb => by simp [hb], ⟨hp, by simp; omega⟩, ⟨[], nilrow _ _ _, rfl, fun i c hc => by simp at hc⟩, nilrow _ _ _, ⟨wb, _, rfl, ⟨hwb, ?_⟩, by simp [madeCells], fun q hq => ⟨.slice none 0 0, ?_, nilrow _ _ _⟩⟩, ⟨?_, fun g hg => ?_⟩, nilrow _ _ _⟩⟩
  · simp only [if_neg (show ¬ wb < W.heap.size by omega), if_neg (show ¬ wb = p from fun e => hpw e.symm), if_true]
  · simp [madeCells, hq, Nat.mod_one]
  · rw [List.length_map]
    refine ⟨ht.1, ?_⟩
    rcases ht.2 with h0 | ⟨g, c, cur, a, b, d⟩
    · exact .inl h0
    · exact .inr ⟨g, c, cur, a, Nat.zero_le _, d⟩
  · obtain ⟨h1, h2⟩ := hne g hg
    have hge : W.heap.size ≤ g := by
      rcases ht.2 with ⟨h0, _⟩ | ⟨g', c, cur, a, b, d⟩
      · rw [h0] at hg; cases hg
      · rw [a] at hg; injection hg with hg; have hg : g' = g := hg; omega
    simp only [if_neg (show ¬ g < W.heap.size by omega), if_neg h2, if_neg h1]
end Go.Proofs.Ytigomnbcalpohaa
