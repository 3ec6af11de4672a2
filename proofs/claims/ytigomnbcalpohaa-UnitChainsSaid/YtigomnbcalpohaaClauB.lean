/-
  May and Eval of package clause, FormulaMay and Eval of the document's own answer, and the law's own small functions: what each answers at every formula.
-/
import Derived.Test.YtigomnbcalpohaaClauA
namespace Go.Proofs.Ytigomnbcalpohaa
open Go.ChangeShapes Go.WideShapes Go.ChangeAt Go.RowKit
set_option linter.unusedVariables false

/-! ### The library's ContainsFunc at Eval's closure -/
def IdxPost (r : Bool) (w : World) (e : Ending) (w' : World) : Prop := ∃ k : Int, e = .returned (.int .i64 k) ∧ decide (0 ≤ k) = r ∧ w = w'
theorem any_take {p : Int → Bool} {c : List Int} {k : Nat} {l : Int} (h : c[k]? = some l) : (c.take (k + 1)).any p = ((c.take k).any p || p l) := by
  have hk := (List.getElem?_eq_some_iff.1 h).1
  rw [List.take_succ_eq_append_getElem hk, List.any_append, (List.getElem?_eq_some_iff.1 h).2]; simp
theorem any_of {p : Int → Bool} {c : List Int} {k : Nat} {l : Int} (h : c[k]? = some l) (hp : p l = true) : c.any p = true :=
  List.any_eq_true.2 ⟨l, List.mem_of_getElem? h, hp⟩
/-! ### Eval -/
theorem eval_take {m : List Bool} {f : List (List Int)} {k : Nat} {c : List Int} (h : f[k]? = some c) : evalM m (f.take (k + 1)) = (evalM m (f.take k) && evalC m c) := by
  have hk := (List.getElem?_eq_some_iff.1 h).1
  unfold evalM
  rw [List.take_succ_eq_append_getElem hk, List.all_append, (List.getElem?_eq_some_iff.1 h).2]; simp
theorem eval_no {m : List Bool} {f : List (List Int)} {k : Nat} {c : List Int} (h : f[k]? = some c) (hp : evalC m c = false) : evalM m f = false := by
  unfold evalM; rw [List.all_eq_false]; exact ⟨c, List.mem_of_getElem? h, by simp [hp]⟩
set_option maxHeartbeats 800000 in
theorem reval_any (A : Option Addr) (f : List (List Int)) (fcap : Nat) (B : Option Addr) (m : List Bool) (cap : Nat) (w : World) (hf : FormAt w A f) (hn : f.length ≤ 9223372036854775807) (hm : SeqAt Value.bool w B m) (hl : m.length ≤ 9223372036854775807) :
    Calls Try.prog 15 #[.slice A f.length fcap, .slice B m.length cap] w fun e w' => e = .returned (.bool (evalM m f)) ∧ w = w' := by
  have HF := Lib.hid hf
  have HM := Lib.hid hm
  clear hf hm
  go_enter Try.func15, Try.ntmps15
  go_wp2_with fail
  go_loop [5] (fun i => ∃ k : Nat, k ≤ f.length ∧ i = .int .i64 k ∧ Hid (evalM m (f.take k) = true)) (fun i => f.length - (intOf i).toNat)
  case atStart => exact ⟨0, by omega, rfl, by simp [Hid, evalM]⟩
  case round =>
    obtain ⟨k, hk, rfl, H⟩ := hrel
    by_cases hlt : k < f.length
    · obtain ⟨c, hz⟩ : ∃ c, f[k]? = some c := ⟨_, List.getElem?_eq_getElem hlt⟩
      obtain ⟨a, C, ccap, rfl, hcell, hcs, hcl⟩ := HF.out.get k c hz
      have HS := Lib.hid hcs
      have HW := Lib.hid (HF.out.wf c (List.mem_of_getElem? hz))
      have HZ := Lib.hid hz
      clear hcs hz
      go_wp2_with fail
      go_loop [6, 7] (fun o i => ∃ j : Nat, j ≤ c.length ∧ i = .int .i64 j ∧ o = .bool ((c.take j).any (holdsM m))) (fun o i => c.length - (intOf i).toNat)
      case atStart => exact ⟨0, by omega, rfl, rfl⟩
      case round =>
        obtain ⟨j, hj, rfl, rfl⟩ := hrel
        by_cases hjl : j < c.length
        · obtain ⟨l, hz⟩ : ∃ l, c[j]? = some l := ⟨_, List.getElem?_eq_getElem hjl⟩
          obtain ⟨aC, rfl, hcc⟩ := HS.out.get j l hz
          have ch := rholds_any l B m cap w (HW.out l (List.mem_of_getElem? hz)) HM.out hl
          have HE := Lib.hid (any_take (p := holdsM m) hz)
          clear hz
          cases ho : (c.take j).any (holdsM m) with
          | true =>
            rw [ho] at HE
            clear ho ch
            go_wp2_with fail
            go_round
            case rel => exact ⟨j + 1, by omega, by go_num, by rw [HE.out]; rfl⟩
            case measure => simp [intOf]; omega
          | false =>
            rw [ho] at HE
            clear ho
            generalize holdsM m l = r at ch HE
            go_wp2_with (go_at_call 22; ((with_reducible refine ch.mono ?_); rintro e w' ⟨rfl, rfl⟩))
            go_round
            case rel => exact ⟨j + 1, by omega, by go_num, by rw [HE.out]; rfl⟩
            case measure => simp [intOf]; omega
        · obtain rfl : j = c.length := by omega
          have e : (c.take c.length).any (holdsM m) = evalC m c := by rw [List.take_length]; rfl
          rw [e]
          clear e
          cases hr : evalC m c with
          | true =>
            have HE := Lib.hid (show evalM m (f.take (k + 1)) = true by rw [eval_take HZ.out, H.out, hr]; rfl)
            clear hr
            go_wp2_with fail
            go_round
            case rel => exact ⟨k + 1, by omega, by go_num, HE.out⟩
            case measure => simp [intOf]; omega
          | false =>
            have HE := Lib.hid (eval_no HZ.out hr)
            clear hr
            go_wp2_with fail
            go_ret
            exact ⟨by rw [HE.out]; (first | done | rfl), rfl⟩
    · obtain rfl : k = f.length := by omega
      have HE := Lib.hid (show evalM m f = true by have := H.out; rw [List.take_length] at this; exact this)
      clear H
      go_wp2_with fail
      go_ret
      exact ⟨by rw [HE.out]; (first | done | rfl), rfl⟩
end Go.Proofs.Ytigomnbcalpohaa
