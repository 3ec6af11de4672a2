/-
  What May, Split, Deep, Less of package names are to answer, as propositions; awake of stage 12's laws over them.
-/
import Derived.Test.YtppnpidkemhacaaNameS
namespace Go.Proofs.Ytppnpidkemhacaa
open Go.ChangeShapes Go.WideShapes Go.ChangeAt Go.RowKit Go.Joins
set_option linter.unusedVariables false

def MayC : Prop := ∀ (s : ByteArray) (W : World), s.size ≤ 140737488351232 → Calls Try.prog 11 #[.string s] W fun e W' => e = .returned (.bool (nameB s.data.toList)) ∧ Gw W W'
def SplitC : Prop := ∀ (s : ByteArray) (W : World), s.size ≤ 140737488351232 → Calls Try.prog 8 #[.string s] W fun e W' => e = .returned (.tuple #[.string (bs (spl s.data.toList).1), .string (bs (spl s.data.toList).2)]) ∧ Gw W W'
def DeepC : Prop := ∀ (s : ByteArray) (W : World), s.size ≤ 140737488351232 → Calls Try.prog 12 #[.string s] W fun e W' => e = .returned (.int .i64 (deepB s.data.toList)) ∧ Gw W W'
def LessC : Prop := ∀ (s t : ByteArray) (W : World), s.size ≤ 140737488351232 → t.size ≤ 140737488351232 → Calls Try.prog 13 #[.string s, .string t] W fun e W' => e = .returned (.bool (lessN s.data.toList t.data.toList)) ∧ Gw W W'
/-- The laws' awake. -/
def AwN : Prop := ∀ (W : World), Calls Try.prog 7 #[] W fun e W' => e = .returned (.bool true) ∧ Gw W W'
theorem awake_n (hm : MayC) (hs : SplitC) (hd : DeepC) (hl : LessC) : AwN := by
  intro W
  have S1 : ∀ w, Calls Try.prog 8 #[.string ⟨#[100, 47, 98]⟩] w fun e W' => e = .returned (.tuple #[.string ⟨#[100]⟩, .string ⟨#[98]⟩]) ∧ Gw w W' := fun w => by
    have := hs ⟨#[100, 47, 98]⟩ w (by decide)
    rw [show spl (⟨#[100, 47, 98]⟩ : ByteArray).data.toList = ([100], [98]) by decide +kernel] at this
    exact this
  have M1 : ∀ w, Calls Try.prog 11 #[.string ⟨#[97]⟩] w fun e W' => e = .returned (.bool true) ∧ Gw w W' := fun w => by
    have := hm ⟨#[97]⟩ w (by decide)
    rw [show nameB (⟨#[97]⟩ : ByteArray).data.toList = true by decide +kernel] at this
    exact this
  have M2 : ∀ w, Calls Try.prog 11 #[.string ⟨#[46, 46]⟩] w fun e W' => e = .returned (.bool false) ∧ Gw w W' := fun w => by
    have := hm ⟨#[46, 46]⟩ w (by decide)
    rw [show nameB (⟨#[46, 46]⟩ : ByteArray).data.toList = false by decide +kernel] at this
    exact this
  have D1 : ∀ w, Calls Try.prog 12 #[.string ⟨#[100, 47, 98]⟩] w fun e W' => e = .returned (.int .i64 2) ∧ Gw w W' := fun w => by
    have := hd ⟨#[100, 47, 98]⟩ w (by decide)
    rw [show deepB (⟨#[100, 47, 98]⟩ : ByteArray).data.toList = 2 by decide +kernel] at this
    exact this
  have L1 : ∀ w, Calls Try.prog 13 #[.string ⟨#[97]⟩, .string ⟨#[100, 47, 97]⟩] w fun e W' => e = .returned (.bool true) ∧ Gw w W' := fun w => by
    have := hl ⟨#[97]⟩ ⟨#[100, 47, 97]⟩ w (by decide) (by decide)
    rw [show lessN (⟨#[97]⟩ : ByteArray).data.toList (⟨#[100, 47, 97]⟩ : ByteArray).data.toList = true by decide +kernel] at this
    exact this
  have q1 : ((⟨#[100]⟩ : ByteArray).toList == [100]) = true := by decide +kernel
  have hn : ∀ b w, (Op.unary .not (.bool b)).run Try.prog w = .ok (.bool (!b)) w := fun _ _ => rfl
  go_enter Try.func7, Try.ntmps7
  go_wp2_with (first
    | (go_at_call 8; with_reducible refine (S1 _).mono ?_; rintro e w1 ⟨rfl, G1⟩)
    | (go_at_call 11; first | (with_reducible refine (M1 _).mono ?_; rintro e w2 ⟨rfl, G2⟩) | (with_reducible refine (M2 _).mono ?_; rintro e w3 ⟨rfl, G3⟩))
    | (go_at_call 12; with_reducible refine (D1 _).mono ?_; rintro e w4 ⟨rfl, G4⟩)
    | (go_at_call 13; with_reducible refine (L1 _).mono ?_; rintro e w5 ⟨rfl, G5⟩))
  go_ret
  exact ⟨by simp, G1.trans (G2.trans (G3.trans (G4.trans G5)))⟩
end Go.Proofs.Ytppnpidkemhacaa
