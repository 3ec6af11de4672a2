/-
  Parts of the proof, joined: DpllSt2.
-/
import Derived.Test.YtpmdnbdmocdngaaGreatMh45
import Derived.Test.YtpmdnbdmocdngaaGreatMh49

namespace Go.Proofs.YtpmdnbdmocdngaaGreat
open Go.ChangeShapes Go.WideShapes Go.ChangeAt Go.RowKit
set_option linter.unusedVariables false
set_option linter.unusedSimpArgs false

theorem infoBoolS : (Tryz.prog.info? 4).map (fun i => (i.zero, i.size, i.bytes)) = some (some (.bool false), 1, 1) := by kernel_rfl
theorem bit_i64_all : ((List.range 64).all fun a => (List.range 64).all fun b => (List.range 12).all fun i => (bits BinOp.and IntKind.i64 (((64 * a + b : Nat) : Int) / 2 ^ i) 1 == 1) == (64 * a + b).testBit i) = true := by decide +kernel
theorem bit_i64 {x i : Nat} (hx : x < 4096) (hi : i < 12) : (bits BinOp.and IntKind.i64 ((x : Int) / 2 ^ i) 1 == 1) = x.testBit i := by
  have h := List.all_eq_true.1 (List.all_eq_true.1 (List.all_eq_true.1 bit_i64_all (x / 64) (List.mem_range.2 (by omega))) (x % 64) (List.mem_range.2 (by omega))) i (List.mem_range.2 hi)
  rw [show 64 * (x / 64) + x % 64 = x by omega] at h
  exact eq_of_beq h
/-- How many of the first x lists of truths make a formula hold. -/
def cntS (n : Nat) (f : List (List Int)) (x : Nat) : Nat := ((List.range x).filter fun y => evalM (bitsOf n y) f).length
theorem cntS_step (n : Nat) (f : List (List Int)) (x : Nat) : cntS n f (x + 1) = cntS n f x + if evalM (bitsOf n x) f = true then 1 else 0 := by
  unfold cntS
  rw [List.range_succ, List.filter_append, List.length_append]
  congr 1
  cases h : evalM (bitsOf n x) f <;> simp [h]
theorem cntS_le (n : Nat) (f : List (List Int)) (x : Nat) : cntS n f x ≤ x := by
  have := List.length_filter_le (fun y => evalM (bitsOf n y) f) (List.range x)
  rw [List.length_range] at this; exact this
theorem cntS_all (n : Nat) (f : List (List Int)) : cntS n f (2 ^ n) = many n f := by
  unfold cntS many allB
  rw [List.filter_map, List.length_map]; rfl
theorem bits_row {n x : Nat} {arr : Array Value} (hs : arr.size = n) (h : ∀ j, j < n → arr[j]? = some (.bool (x.testBit j))) : arr = ((bitsOf n x).map Value.bool).toArray := by
  apply Array.ext_getElem?
  intro j
  by_cases hj : j < n
  · rw [h j hj]; simp [bits_at hj]
  · rw [Array.getElem?_eq_none (by omega)]
    simp [bitsOf, Nat.le_of_not_lt hj]
section
variable {A : Option Addr} {f : List (List Int)} {fcap n : Nat} {w : World}
set_option maxHeartbeats 3200000 in
set_option maxRecDepth 4000 in
theorem rsat_any (hf : FormAt w A f) (hn : n ≤ 12) (hfl : f.length ≤ 100000) :
    Calls Tryz.prog 12 #[.int .i64 (n : Int), .slice A f.length fcap] w fun e w' => e = .returned (.int .i64 (many n f : Int)) ∧ Below w.heap.size w w' := by
  have hmk : (Instr.makeSlice 25 (.int .i64 (n : Int)) (.int .i64 (n : Int))).run Tryz.prog w = .ok (.slice (some ⟨w.heap.size, 0, none⟩) n n) (w.alloc (.cells (madeCells #[.bool false] n) 4)) := run_make_row' (P := Tryz.prog) 25 4 (.bool false) 1 Tryz.underlying25 infoBoolS rfl .i64 .i64 n (by omega) (by omega) w
  have HF := Lib.hid hf
  obtain ⟨X, hX⟩ : ∃ X, 2 ^ n = X := ⟨_, rfl⟩
  have hXb : X ≤ 4096 := by rw [← hX]; exact Nat.pow_le_pow_right (n := 2) (by decide) hn
  have hXw : IntKind.i64.wrap ((2 : Int) ^ n) = (X : Int) := by
    rw [← hX, IntKind.wrap_i64]
    have e : ((2 ^ n : Nat) : Int) = (2 : Int) ^ n := Int.natCast_pow 2 n
    rw [← e, hX]; omega
  have HX := Lib.hid hX
  have hmc : (madeCells #[Value.bool false] n).size = n := by rw [size_madeCells]
  have H0 : Hid (HasB (w.alloc (.cells (madeCells #[.bool false] n) 4)) w.heap.size 4 (madeCells #[.bool false] n)) := Lib.hid (new_heap w _)
  have HB0 := Lib.hid (below_alloc w (.cells (madeCells #[.bool false] n) 4))
  clear hf hX
  go_enter Tryz.func12, Tryz.ntmps12
  go_wp2_with fail
  clear hmk
  go_loopw [5, 7] (fun mv xv wr => ∃ (x c : Nat) (arr : Array Value), x ≤ X ∧ xv = .int .i64 x ∧ mv = .int .i64 c ∧ arr.size = n ∧ Hid (c = cntS n f x) ∧ Hid (HasB wr w.heap.size 4 arr) ∧ Hid (Below w.heap.size w wr)) (fun _ xv _ => X - (intOf xv).toNat)
  case atStart => exact ⟨0, 0, _, Nat.zero_le _, rfl, rfl, hmc, Lib.hid rfl, H0, HB0⟩
  case round =>
    obtain ⟨x, c, arr, hx, rfl, rfl, ha, HC, HR, HB⟩ := hrel
    clear H0 HB0 hmc
    by_cases hlt : x < X
    · have hxX : (x : Int) < (X : Int) := by omega
      have HA := Lib.hid ha
      clear ha
      go_wp2_with fail
      go_loopw [8] (fun iv wr => ∃ (i : Nat) (arr : Array Value), i ≤ n ∧ iv = .int .i64 i ∧ Hid (arr.size = n ∧ ∀ j, j < i → arr[j]? = some (.bool (x.testBit j))) ∧ Hid (HasB wr w.heap.size 4 arr) ∧ Hid (Below w.heap.size w wr)) (fun iv _ => n - (intOf iv).toNat)
      case atStart => exact ⟨0, arr, Nat.zero_le _, rfl, Lib.hid ⟨HA.out, fun j hj => absurd hj (by omega)⟩, HR, HB⟩
      case round =>
        obtain ⟨i, arr, hi, rfl, HA, HR, HB⟩ := hrel
        by_cases hlt2 : i < n
        · have hin : (i : Int) < (n : Int) := by omega
          have hz : w.heap.size < wr.heap.size := lt_of_heap HR.out
          obtain ⟨u, hu⟩ : ∃ u, wr.cell? ⟨w.heap.size, i, none⟩ = some u := ⟨_, (HR.out.cell i).trans (Array.getElem?_eq_getElem (by rw [HA.out.1]; exact hlt2))⟩
          have hfz : wr.frozen? ⟨w.heap.size, i, none⟩ = false := HR.out.free i
          have hbit := bit_i64 (x := x) (i := i) (by omega) (by omega)
          have HP := Lib.hid (HR.out.put i (.bool (x.testBit i)))
          have HBP := Lib.hid (show Below w.heap.size w (wr.setCell ⟨w.heap.size, i, none⟩ (.bool (x.testBit i))) from HB.out.setCell (Nat.le_refl _) _)
          go_wp2_with fail
          go_roundw
          case rel => exact ⟨i + 1, arr.setIfInBounds i (.bool (x.testBit i)), by omega, by go_num, Lib.hid ⟨by rw [Array.size_setIfInBounds]; exact HA.out.1, fun j hj => by
            by_cases e : i = j
            · subst e; exact Array.getElem?_setIfInBounds_self_of_lt (by rw [HA.out.1]; exact hlt2)
            · rw [Array.getElem?_setIfInBounds_ne e]; exact HA.out.2 j (by omega)⟩, HP, HBP⟩
          case measure => simp [intOf]; omega
        · have hni : i = n := by omega
          have hge : ¬ (i : Int) < (n : Int) := by omega
          have harr : arr = ((bitsOf n x).map Value.bool).toArray := bits_row HA.out.1 (fun j hj => HA.out.2 j (by omega))
          have HS : Hid (SeqAt Value.bool wr (some ⟨w.heap.size, 0, none⟩) (bitsOf n x)) := Lib.hid ⟨fun j z hz => ⟨_, rfl, by rw [add_at]; exact (HR.out.cell j).trans (by rw [harr]; simp [hz])⟩⟩
          have CE := Lib.hid (by
            have h := reval_any A f fcap (some ⟨w.heap.size, 0, none⟩) (bitsOf n x) n wr (HF.out.keep HB.out) (by omega) HS.out (by rw [bits_len]; omega)
            rw [bits_len] at h; exact h)
          have HCS := Lib.hid (cntS_step n f x)
          have hcb := cntS_le n f x
          rw [← HC.out] at hcb
          clear harr hni
          cases hev : evalM (bitsOf n x) f with
          | true =>
            rw [hev] at CE
            have HEV := Lib.hid hev
            clear hev
            go_wp2_with (go_at_call 13; ((with_reducible refine CE.out.mono ?_); rintro e w' ⟨rfl, rfl⟩))
            go_roundw
            case rel => exact ⟨x + 1, c + 1, arr, by omega, by go_num, by go_num, HA.out.1, Lib.hid (by rw [HCS.out, if_pos HEV.out, HC.out]), HR, HB⟩
            case measure => simp [intOf]; omega
          | false =>
            rw [hev] at CE
            have HEV := Lib.hid hev
            clear hev
            go_wp2_with (go_at_call 13; ((with_reducible refine CE.out.mono ?_); rintro e w' ⟨rfl, rfl⟩))
            go_roundw
            case rel => exact ⟨x + 1, c, arr, by omega, by go_num, rfl, HA.out.1, Lib.hid (by rw [HCS.out, if_neg (by rw [HEV.out]; decide), HC.out]; rfl), HR, HB⟩
            case measure => simp [intOf]; omega
    · have hxX : x = X := by omega
      have hge : ¬ (x : Int) < (X : Int) := by omega
      have HE := Lib.hid (show (c : Int) = (many n f : Int) by rw [HC.out, hxX, ← HX.out, cntS_all])
      have HEB := HB
      clear HC HR ha hxX
      go_wp2_with fail
      go_ret
      exact ⟨by rw [HE.out]; rfl, HEB.out⟩
end
end Go.Proofs.YtpmdnbdmocdngaaGreat
