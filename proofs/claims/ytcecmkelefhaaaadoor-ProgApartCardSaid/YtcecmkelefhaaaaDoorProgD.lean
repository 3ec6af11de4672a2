/-
  decimal of stage 10's laws: a number's digits.
-/
import Derived.Test.YtcecmkelefhaaaaDoorProgG
import Derived.Laws.IdiomStrings
namespace Go.Proofs.YtcecmkelefhaaaaDoor
open Go.ChangeShapes Go.WideShapes Go.ChangeAt Go.RowKit Go.Joins
set_option linter.unusedVariables false

/-- The decimal digits of a number, as bytes. -/
def digs (n : Nat) : List UInt8 := if n < 10 then [UInt8.ofNat (48 + n)] else digs (n / 10) ++ [UInt8.ofNat (48 + n % 10)]
termination_by n
decreasing_by omega
theorem digs_small {n : Nat} (h : n < 10) : digs n = [UInt8.ofNat (48 + n)] := by rw [digs, if_pos h]
theorem digs_big {n : Nat} (h : ¬ n < 10) : digs n = digs (n / 10) ++ [UInt8.ofNat (48 + n % 10)] := by rw [digs, if_neg h]
theorem one_back (w : World) (d : Nat) (hd : d ≤ 255) : (convert 28 9 (.slice (some ⟨w.heap.size, 0, none⟩) 1 1)).run Tryd.prog (w.alloc (.cells #[.int .u8 d] 5)) = .ok (.string ⟨#[UInt8.ofNat d]⟩) (w.alloc (.cells #[.int .u8 d] 5)) := by
  have := run_convert_bytes_back (P := Tryd.prog) (w.alloc (.cells #[.int .u8 d] 5)) 28 9 5 ⟨w.heap.size, 0, none⟩ 1 [UInt8.ofNat d] Tryd.underlying28 Tryd.underlying5 Tryd.underlying9 (fun j hj => by
    obtain rfl : j = 0 := by simp at hj; omega
    rw [add_eq, World.cell?_alloc_new]
    have e : ((UInt8.ofNat d).toNat : Int) = d := by rw [UInt8.toNat_ofNat']; omega
    show some (Value.int .u8 d) = some (Value.int .u8 ((UInt8.ofNat d).toNat : Int))
    rw [e])
  exact this
theorem cat_bytes (d : UInt8) (l : List UInt8) : (⟨#[d]⟩ : ByteArray) ++ ⟨l.toArray⟩ = ⟨(d :: l).toArray⟩ := by
  apply bytes_inj
  rw [data_append]
  simp
theorem size_mk (l : List UInt8) : (⟨l.toArray⟩ : ByteArray).size = l.length := by simp [ByteArray.size]
set_option maxHeartbeats 2000000 in
theorem decimal_any (n : Nat) (W : World) (hn : n ≤ 9223372036854775807) :
    Calls Tryd.prog 18 #[.int .i64 n] W fun e W' => e = .returned (.string ⟨(digs n).toArray⟩) ∧ Gw W W' := by
  obtain ⟨d, hd⟩ : ∃ d : UInt8, d = UInt8.ofNat (48 + n % 10) := ⟨_, rfl⟩
  have hc : ∀ w : World, (convert 28 9 (.slice (some ⟨w.heap.size, 0, none⟩) 1 1)).run Tryd.prog (w.alloc (.cells #[.int .u8 (48 + (n : Int) % 10)] 5)) = .ok (.string ⟨#[d]⟩) (w.alloc (.cells #[.int .u8 (48 + (n : Int) % 10)] 5)) := fun w => by
    have := one_back w (48 + n % 10) (by omega)
    have e : ((48 + n % 10 : Nat) : Int) = 48 + (n : Int) % 10 := by omega
    rw [e, ← hd] at this
    exact this
  have HDD := Lib.hid hd
  clear hd
  have HG := Lib.hid (Gw.alloc W (.cells #[.int .u8 (48 + (n : Int) % 10)] 5))
  go_enter Tryd.func18, Tryd.ntmps18
  go_wp2
  go_loopw [0, 3] (fun v t wr => ∃ (m : Nat) (l : List UInt8), m ≤ n ∧ v = .int .i64 m ∧ t = .string ⟨l.toArray⟩ ∧ Hid (digs n = if m < 10 then l else digs (m / 10) ++ l) ∧ Hid (m * 2 ^ l.length ≤ 2 * n) ∧ Hid (Gw W wr)) (fun v _ _ => (intOf v).toNat)
  case atStart =>
    refine ⟨n, [d], Nat.le_refl _, rfl, rfl, ?_, (by show n * 2 ^ 1 ≤ 2 * n; omega), HG.out⟩
    show digs n = _
    rw [HDD.out]
    by_cases h : n < 10
    · rw [if_pos h, digs_small h, Nat.mod_eq_of_lt h]
    · rw [if_neg h, ← digs_big h]
  case round =>
    obtain ⟨m, l, hm, rfl, rfl, HD, HP, HW⟩ := hrel
    by_cases h9 : 9 < m
    · obtain ⟨d2, hd2⟩ : ∃ d : UInt8, d = UInt8.ofNat (48 + m / 10 % 10) := ⟨_, rfl⟩
      have hc2 : ∀ w : World, (convert 28 9 (.slice (some ⟨w.heap.size, 0, none⟩) 1 1)).run Tryd.prog (w.alloc (.cells #[.int .u8 (48 + (m : Int) / 10 % 10)] 5)) = .ok (.string ⟨#[d2]⟩) (w.alloc (.cells #[.int .u8 (48 + (m : Int) / 10 % 10)] 5)) := fun w => by
        have := one_back w (48 + m / 10 % 10) (by omega)
        have e : ((48 + m / 10 % 10 : Nat) : Int) = 48 + (m : Int) / 10 % 10 := by omega
        rw [e, ← hd2] at this
        exact this
      have HD2 := Lib.hid hd2
      clear hc hd2
      have hlen : l.length ≤ 64 := by
        rcases Nat.lt_or_ge 64 l.length with h | h
        · exfalso
          have h1 : 2 ^ 65 ≤ 2 ^ l.length := Nat.pow_le_pow_right (by omega) h
          have h2 : 1 * 2 ^ l.length ≤ m * 2 ^ l.length := Nat.mul_le_mul_right _ (by omega)
          have h3 := HP.out
          omega
        · exact h
      have hs1 := size_mk l
      have hs2 : (⟨#[d2]⟩ : ByteArray).size = 1 := rfl
      have h9' : (9 : Int) < m := by omega
      have HC := Lib.hid (cat_bytes d2 l)
      go_wp2
      all_goals first | (exfalso; omega) | skip
      refine ⟨⟨m / 10, d2 :: l, by omega, by rw [Int.natCast_ediv]; rfl, by rw [HC.out], ?_, ?_, HW.out.trans (Gw.alloc wr _)⟩, ?_⟩
      · show digs n = _
        have h1 := HD.out
        rw [if_neg (by omega)] at h1
        by_cases h : m / 10 < 10
        · rw [if_pos h, h1, digs_small h, HD2.out, Nat.mod_eq_of_lt h]; rfl
        · rw [if_neg h, h1, digs_big h, HD2.out, List.append_assoc]; rfl
      · show m / 10 * 2 ^ (l.length + 1) ≤ 2 * n
        have h1 := HP.out
        have h2 : m / 10 * 2 * 2 ^ l.length ≤ m * 2 ^ l.length := Nat.mul_le_mul_right _ (by omega)
        have h3 : m / 10 * 2 ^ (l.length + 1) = m / 10 * 2 * 2 ^ l.length := by rw [Nat.pow_succ, Nat.mul_comm (2 ^ l.length) 2, Nat.mul_assoc]
        omega
      · show ((m : Int) / 10).toNat < ((m : Int)).toNat
        omega
    · have h1 := HD.out
      rw [if_pos (by omega)] at h1
      have H1 := Lib.hid h1
      clear h1 HD
      have h9' : ¬ (9 : Int) < m := by omega
      go_wp2
      go_ret
      exact ⟨by rw [H1.out]; rfl, HW.out⟩
end Go.Proofs.YtcecmkelefhaaaaDoor
