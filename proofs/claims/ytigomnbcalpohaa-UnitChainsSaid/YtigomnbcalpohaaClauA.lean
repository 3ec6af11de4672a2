/-
  Slices and formulas as they lie in memory; number, holds, Eval of package clause and Holds, Eval, FormulaMay of the document's own answer.
-/
import Derived.Test.YtigomnbcalpohaaClauM
import Derived.ProofKit
import Derived.OpenShut
import Derived.Outline
import Derived.Deep.Draws
import Derived.Deep.QuietTactic
import Derived.BigQuiet
import Derived.Laws.OwnMore
import Derived.Laws.Unary
import Derived.Laws.Small
import Derived.OwnWalk
namespace Go.Proofs.Ytigomnbcalpohaa
open Go.ChangeShapes Go.WideShapes Go.ChangeAt Go.RowKit
set_option linter.unusedVariables false

/-! ### Memory -/
/-- A slice that reads as a list. -/
structure SeqAt {α : Type} (v : α → Value) (w : World) (A : Option Addr) (zs : List α) : Prop where
  get : ∀ (i : Nat) (z : α), zs[i]? = some z → ∃ a, A = some a ∧ w.cell? (a.add i) = some (v z)
theorem lt_of_cell {w : World} {a : Addr} {v : Value} (h : w.cell? a = some v) : a.block < w.heap.size := by
  unfold World.cell? at h
  cases hh : w.heap[a.block]? with
  | none => rw [hh] at h; cases h
  | some o => exact (Array.getElem?_eq_some_iff.1 hh).1
theorem add_block (a : Addr) (n : Nat) : (a.add n).block = a.block := by unfold Addr.add; split <;> rfl
theorem SeqAt.keep {α : Type} {v : α → Value} {w w' : World} {A : Option Addr} {zs : List α} (h : SeqAt v w A zs) (b : Below w.heap.size w w') : SeqAt v w' A zs :=
  ⟨fun i z hz => by
    obtain ⟨a, ha, hc⟩ := h.get i z hz
    exact ⟨a, ha, (b.cell (p := a.add i) (lt_of_cell hc)).trans hc⟩⟩
theorem SeqAt.nil {α : Type} (v : α → Value) (w : World) : SeqAt v w none [] := ⟨fun i z h => by simp at h⟩
theorem SeqAt.nils {α : Type} {v : α → Value} {w : World} {A : Option Addr} {zs : List α} (h : SeqAt v w A zs) : SeqAt v w A ([] : List α) := ⟨fun i z h => by simp at h⟩
/-- A slice of slices of numbers that reads as a formula. -/
structure FormAt (w : World) (A : Option Addr) (f : List (List Int)) : Prop where
  get : ∀ (i : Nat) (c : List Int), f[i]? = some c → ∃ a B cap, A = some a ∧ w.cell? (a.add i) = some (.slice B c.length cap) ∧ SeqAt (Value.int .i64) w B c ∧ c.length ≤ 9223372036854775807
  lt : ∀ a, A = some a → a.block < w.heap.size
  wf : ∀ c ∈ f, ∀ l ∈ c, Wf l
theorem FormAt.keep {w w' : World} {A : Option Addr} {f : List (List Int)} (h : FormAt w A f) (b : Below w.heap.size w w') : FormAt w' A f :=
  ⟨fun i c hc => by
    obtain ⟨a, B, cap, ha, hce, hs, hl⟩ := h.get i c hc
    exact ⟨a, B, cap, ha, (b.cell (p := a.add i) (by rw [add_block]; exact h.lt a ha)).trans hce, hs.keep b, hl⟩, fun a ha => Nat.lt_of_lt_of_le (h.lt a ha) b.size, h.wf⟩

/-! ### number, holds -/
theorem least_wrap : wrap64 9223372036854775808 = -9223372036854775808 := by simp [wrap64]
theorem ret_bool {a b : Bool} (h : a = b) : Ending.returned (.bool a) = .returned (.bool b) := by rw [h]
theorem ret_int {k : IntKind} {a b : Int} (h : a = b) : Ending.returned (.int k a) = .returned (.int k b) := by rw [h]
theorem number_any (l : Int) (W : World) (hw : Wf l) : Calls Try.prog 23 #[.int .i64 l] W fun e W' => e = .returned (.int .i64 (numb l)) ∧ W = W' := by
  rcases numb_cases hw with ⟨rfl, e⟩ | ⟨h1, ⟨h2, e⟩ | ⟨h2, e⟩⟩
  all_goals
    rw [e]
    have h3 := hw.2
    clear hw e
    have hl := least_wrap
    go_enter Try.func23, Try.ntmps23
    go_wp2
    go_ret
    exact ⟨by first | rfl | exact ret_int hl, rfl⟩
theorem holds_one (m : List Bool) (l : Int) (k : Nat) (b : Bool) (e : numb l = (k : Int) + 1) (hb : m[k]?.getD false = b) : holdsM m l = (b == decide (0 < l)) := by
  unfold holdsM; rw [if_neg (by omega), e, show ((k : Int) + 1 - 1).toNat = k by omega, hb]
theorem max_numb {l : Int} (h : Wf l) : max l (IntKind.i64.wrap (-l)) = numb l := by
  have h' := h
  unfold Wf at h'
  rcases numb_cases h with ⟨rfl, e⟩ | ⟨h1, h2⟩
  · decide
  · rw [wrap_in (by omega) (by omega)]; omega
theorem rholds_least (A : Option Addr) (m : List Bool) (cap : Nat) (W : World) (hl : m.length ≤ 9223372036854775807) :
    Calls Try.prog 22 #[.int .i64 (-9223372036854775808), .slice A m.length cap] W fun e W' => e = .returned (.bool (holdsM m (-9223372036854775808))) ∧ W = W' := by
  have HE := Lib.hid (show holdsM m (-9223372036854775808) = false by unfold holdsM; rw [if_pos (by decide)])
  have hw := least_wrap
  go_enter Try.func22, Try.ntmps22
  go_wp2
  go_ret
  exact ⟨by rw [HE.out]; (first | done | rfl), rfl⟩
set_option maxHeartbeats 800000 in
theorem rholds_any (l : Int) (A : Option Addr) (m : List Bool) (cap : Nat) (W : World) (hw : Wf l) (hm : SeqAt Value.bool W A m) (hl : m.length ≤ 9223372036854775807) :
    Calls Try.prog 22 #[.int .i64 l, .slice A m.length cap] W fun e W' => e = .returned (.bool (holdsM m l)) ∧ W = W' := by
  rcases numb_cases hw with ⟨rfl, _⟩ | ⟨h1, ⟨h2, h3⟩ | ⟨h2, h3⟩⟩
  · exact rholds_least A m cap W hl
  · have h4 : l ≤ 9223372036854775807 := hw.2
    clear hw
    by_cases h5 : l < 1
    · have HE := Lib.hid (show holdsM m l = false by unfold holdsM; rw [if_pos (by omega)])
      clear hm h3
      obtain rfl : l = 0 := by omega
      clear h1 h2 h4 h5
      go_enter Try.func22, Try.ntmps22
      go_wp2
      go_ret
      exact ⟨by rw [HE.out]; (first | done | rfl | (refine ret_bool ?_; ((try simp [*]) <;> (try omega)))), rfl⟩
    have h6 : 1 ≤ l := by omega
    have h7 : 0 < l := by omega
    by_cases h8 : l ≤ (m.length : Int)
    · obtain ⟨b, hb⟩ : ∃ b, m[l.toNat - 1]? = some b := ⟨_, List.getElem?_eq_getElem (by omega)⟩
      obtain ⟨a, rfl, hc⟩ := hm.get _ b hb
      have HE := Lib.hid (holds_one m l (l.toNat - 1) b (by omega) (by rw [hb]; rfl))
      clear h3 hb hm h1 h2 h5
      go_enter Try.func22, Try.ntmps22
      go_wp2
      go_ret
      exact ⟨by rw [HE.out]; (first | done | rfl | (refine ret_bool ?_; ((try simp [*]) <;> (try omega)))), rfl⟩
    · have HE := Lib.hid (holds_one m l (l.toNat - 1) false (by omega) (by rw [List.getElem?_eq_none (by omega)]; rfl))
      clear h3 hm h1 h2 h5
      go_enter Try.func22, Try.ntmps22
      go_wp2
      go_ret
      exact ⟨by rw [HE.out]; (first | done | rfl | (refine ret_bool ?_; ((try simp [*]) <;> (try omega)))), rfl⟩
  · clear hw
    have h6 : 1 ≤ -l := by omega
    by_cases h8 : -l ≤ (m.length : Int)
    · obtain ⟨b, hb⟩ : ∃ b, m[(-l).toNat - 1]? = some b := ⟨_, List.getElem?_eq_getElem (by omega)⟩
      obtain ⟨a, rfl, hc⟩ := hm.get _ b hb
      have HE := Lib.hid (holds_one m l ((-l).toNat - 1) b (by omega) (by rw [hb]; rfl))
      clear h3 hb hm
      go_enter Try.func22, Try.ntmps22
      go_wp2
      go_ret
      exact ⟨by rw [HE.out]; (first | done | rfl | (refine ret_bool ?_; ((try simp [*]) <;> (try omega)))), rfl⟩
    · have HE := Lib.hid (holds_one m l ((-l).toNat - 1) false (by omega) (by rw [List.getElem?_eq_none (by omega)]; rfl))
      clear h3 hm
      go_enter Try.func22, Try.ntmps22
      go_wp2
      go_ret
      exact ⟨by rw [HE.out]; (first | done | rfl | (refine ret_bool ?_; ((try simp [*]) <;> (try omega)))), rfl⟩
end Go.Proofs.Ytigomnbcalpohaa
