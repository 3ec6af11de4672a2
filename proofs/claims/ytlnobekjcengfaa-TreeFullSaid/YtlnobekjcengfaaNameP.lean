/-
  mayStand, isPart of package names.
-/
import Derived.Test.YtlnobekjcengfaaNameC
namespace Go.Proofs.Ytlnobekjcengfaa
open Go.ChangeShapes Go.WideShapes Go.ChangeAt Go.RowKit Go.Joins
set_option linter.unusedVariables false

set_option maxHeartbeats 2000000 in
theorem letter_any (c : UInt8) (W : World) : Calls Try.prog 50 #[.int .u8 (c.toNat : Int)] W fun e W' => e = .returned (.bool (chOk c)) ∧ W' = W := by
  have hb := c.toNat_lt
  have hch : chOk c = (decide (97 ≤ c.toNat) && decide (c.toNat ≤ 122) || decide (48 ≤ c.toNat) && decide (c.toNat ≤ 57) || decide (c.toNat = 46) || decide (c.toNat = 95)) := rfl
  have HCH := Lib.hid hch
  clear hch
  generalize chOk c = r at HCH ⊢
  generalize c.toNat = n at HCH hb ⊢
  by_cases h1 : 97 ≤ n
  · by_cases h2 : n ≤ 122
    · have k1 : (97 : Int) ≤ n := by omega
      have k2 : (n : Int) ≤ 122 := by omega
      have hr : r = true := by rw [HCH.out, decide_eq_true h1, decide_eq_true h2]; rfl
      clear h1 h2
      subst hr
      go_enter Try.func50, Try.ntmps50
      go_wp2
      go_ret
      exact ⟨rfl, rfl⟩
    · have k1 : (97 : Int) ≤ n := by omega
      have k2 : decide ((n : Int) ≤ 122) = false := decide_eq_false (by omega)
      have k3 : (48 : Int) ≤ n := by omega
      have k4 : decide ((n : Int) ≤ 57) = false := decide_eq_false (by omega)
      have k5 : ((n : Int) == 46) = false := by simp; omega
      have k6 : ((n : Int) == 95) = false := by simp; omega
      have hr : r = false := by rw [HCH.out, decide_eq_false h2, decide_eq_false (by omega : ¬ n ≤ 57), decide_eq_false (by omega : ¬ n = 46), decide_eq_false (by omega : ¬ n = 95)]; simp
      clear h1 h2
      subst hr
      go_enter Try.func50, Try.ntmps50
      go_wp2
      go_ret
      exact ⟨rfl, rfl⟩
  · have k1 : decide ((97 : Int) ≤ n) = false := decide_eq_false (by omega)
    by_cases h3 : 48 ≤ n ∧ n ≤ 57
    · have k3 : (48 : Int) ≤ n := by omega
      have k4 : (n : Int) ≤ 57 := by omega
      have hr : r = true := by rw [HCH.out, decide_eq_true h3.1, decide_eq_true h3.2]; simp
      clear h1 h3
      subst hr
      go_enter Try.func50, Try.ntmps50
      go_wp2
      go_ret
      exact ⟨rfl, rfl⟩
    · have hr0 : r = (decide (n = 46) || decide (n = 95)) := by
        rw [HCH.out, decide_eq_false h1]
        by_cases h : 48 ≤ n
        · rw [decide_eq_false (by omega : ¬ n ≤ 57)]; simp
        · rw [decide_eq_false h]; simp
      by_cases h5 : n = 46
      · have k5 : ((n : Int) == 46) = true := by simp; omega
        have k3 : decide ((48 : Int) ≤ n) = false := decide_eq_false (by omega)
        have hr : r = true := by rw [hr0, decide_eq_true h5]; rfl
        clear h1 h3 h5 hr0
        subst hr
        go_enter Try.func50, Try.ntmps50
        go_wp2
        go_ret
        exact ⟨rfl, rfl⟩
      · have k5 : ((n : Int) == 46) = false := by simp; omega
        have hr : r = decide (n = 95) := by rw [hr0, decide_eq_false h5]; rfl
        by_cases h6 : n = 95
        · have k6 : ((n : Int) == 95) = true := by simp; omega
          have k3 : (48 : Int) ≤ n := by omega
          have k4 : decide ((n : Int) ≤ 57) = false := decide_eq_false (by omega)
          rw [decide_eq_true h6] at hr
          clear h1 h3 h5 hr0 h6
          subst hr
          go_enter Try.func50, Try.ntmps50
          go_wp2
          go_ret
          exact ⟨rfl, rfl⟩
        · have k6 : ((n : Int) == 95) = false := by simp; omega
          rw [decide_eq_false h6] at hr
          by_cases h48 : 48 ≤ n
          · have k3 : (48 : Int) ≤ n := by omega
            have k4 : decide ((n : Int) ≤ 57) = false := decide_eq_false (by omega)
            clear h1 h3 h5 hr0 h6 h48
            subst hr
            go_enter Try.func50, Try.ntmps50
            go_wp2
            go_ret
            exact ⟨rfl, rfl⟩
          · have k3 : decide ((48 : Int) ≤ n) = false := decide_eq_false (by omega)
            clear h1 h3 h5 hr0 h6 h48
            subst hr
            go_enter Try.func50, Try.ntmps50
            go_wp2
            go_ret
            exact ⟨rfl, rfl⟩
set_option maxHeartbeats 2000000 in
theorem part_any (s : ByteArray) (W : World) (hs : s.size ≤ 140737488351232) : Calls Try.prog 47 #[.string s] W fun e W' => e = .returned (.bool (partB s.data.toList)) ∧ W' = W := by
  obtain ⟨l, hl⟩ : ∃ l, l = s.data.toList := ⟨_, rfl⟩
  have hsz : s.size = l.length := by rw [hl, Array.length_toList]; rfl
  have hsl : s.toList = l := by rw [hl]; exact (Lib.toList_data s)
  rw [← hl]
  have HL := Lib.hid hl
  have HSZ := Lib.hid hsz
  have HSL := Lib.hid hsl
  have HB := Lib.hid hs
  clear hl hsz hsl hs
  have hn : ∀ b w, (Op.unary .not (.bool b)).run Try.prog w = .ok (.bool (!b)) w := fun _ _ => rfl
  go_enter Try.func47, Try.ntmps47
  go_wp2_with fail
  go_loopw [6] (fun i wr => ∃ k : Nat, k ≤ l.length ∧ i = .int .i64 k ∧ Hid ((l.take k).all chOk = true) ∧ wr = W) (fun i _ => l.length - (intOf i).toNat)
  case atStart => exact ⟨0, by omega, rfl, by simp [Hid], rfl⟩
  case round =>
    obtain ⟨k, hk, rfl, HA, rfl⟩ := hrel
    by_cases hlt : k < l.length
    · obtain ⟨c, hc⟩ : ∃ c, l[k]? = some c := ⟨_, List.getElem?_eq_getElem hlt⟩
      have hlt' : k < s.size := by rw [HSZ.out]; exact hlt
      have hck := byte_at HL.out hc hlt'
      have F := letter_any c
      cases hb : chOk c with
      | true =>
        have HA2 := Lib.hid (show (l.take (k + 1)).all chOk = true by rw [all_take hc, HA.out, hb]; rfl)
        rw [hb] at F
        have h62 : (k : Int) + 1 ≤ 9223372036854775807 := by have := HB.out; omega
        clear hc HA hb
        go_wp2_with (go_at_call 50; with_reducible refine (F _).mono ?_; rintro e w' ⟨rfl, rfl⟩)
        go_roundw
        case rel => exact ⟨k + 1, by omega, by go_num, HA2.out, trivial⟩
        case measure => simp [intOf]; omega
      | false =>
        have HX := Lib.hid (show partB l = false by
          have : l.all chOk = false := List.all_eq_false.2 ⟨c, List.mem_of_getElem? hc, by rw [hb]; decide⟩
          unfold partB
          rw [this]
          rfl)
        rw [hb] at F
        clear hc HA hb
        go_wp2_with (go_at_call 50; with_reducible refine (F _).mono ?_; rintro e w' ⟨rfl, rfl⟩)
        go_ret
        exact ⟨by rw [HX.out]; rfl, rfl⟩
    · obtain rfl : k = l.length := by omega
      have hall : l.all chOk = true := by have := HA.out; rw [List.take_length] at this; exact this
      have HX := Lib.hid (show partB l = partOk l by unfold partB; rw [hall]; rfl)
      have hlt' : ¬ l.length < s.size := by rw [HSZ.out]; omega
      clear HA hlt hk hall
      by_cases e1 : l = []
      · have n1' : s.toList.isEmpty = true := by rw [HSL.out, e1]; rfl
        have n1 : s.toList = [] := by rw [HSL.out, e1]
        have HY := Lib.hid (show partB l = false by rw [HX.out, e1]; rfl)
        clear e1 HX
        go_wp2
        go_ret
        exact ⟨by rw [HY.out]; rfl, rfl⟩
      have n1 : ¬ s.toList = [] := by rw [HSL.out]; exact e1
      have n1' : s.toList.isEmpty = false := by rw [HSL.out]; cases l with | nil => exact absurd rfl e1 | cons => rfl
      by_cases e2 : l = [46]
      · have n2 : s.toList = [46] := by rw [HSL.out, e2]
        have n2' : (s.toList == [46]) = true := by rw [HSL.out, e2]; rfl
        have HY := Lib.hid (show partB l = false by rw [HX.out, e2]; rfl)
        clear e1 e2 HX
        go_wp2
        go_ret
        exact ⟨by rw [HY.out]; rfl, rfl⟩
      have n2 : ¬ s.toList = [46] := by rw [HSL.out]; exact e2
      have n2' : (s.toList == [46]) = false := by rw [HSL.out]; exact beq_false_of_ne e2
      by_cases e3 : l = [46, 46]
      · have n3 : s.toList = [46, 46] := by rw [HSL.out, e3]
        have n3' : (s.toList == [46, 46]) = true := by rw [HSL.out, e3]; rfl
        have HY := Lib.hid (show partB l = false by rw [HX.out, e3]; rfl)
        clear e1 e2 e3 HX
        go_wp2
        go_ret
        exact ⟨by rw [HY.out]; rfl, rfl⟩
      have n3 : ¬ s.toList = [46, 46] := by rw [HSL.out]; exact e3
      have n3' : (s.toList == [46, 46]) = false := by rw [HSL.out]; exact beq_false_of_ne e3
      have HY := Lib.hid (show partB l = true by rw [HX.out]; simp [partOk, e1, e2, e3])
      clear e1 e2 e3 HX
      go_wp2
      go_ret
      exact ⟨by rw [HY.out]; rfl, rfl⟩
end Go.Proofs.Ytlnobekjcengfaa
