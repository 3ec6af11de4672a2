/-
  Parts of the proof, joined: DpllFe, DpllFg, DpllFh, DpllFi, DpllFj.
-/
import Derived.Test.YtpmdnbdmocdngaaGreatMh30
import Derived.Test.YtpmdnbdmocdngaaGreatMh12
import Derived.StillTailTactics
import Derived.Test.YtpmdnbdmocdngaaGreatMh09

namespace Go.Proofs.YtpmdnbdmocdngaaGreat
open Go.ChangeShapes Go.WideShapes Go.ChangeAt Go.RowKit
set_option linter.unusedVariables false
set_option linter.unusedSimpArgs false

section
variable {w : World} {g cap : Nat} {xs : List Int} {rest : List Value} {pb : Value}
set_option maxHeartbeats 6400000 in
set_option maxRecDepth 8000 in
theorem symgen_any (C : CmpOk g xs pb w) (hx : xs.length ≤ 4611686018427387000) (a m b : Nat) (ha : a + 2 ≤ m) (hm : m + 2 ≤ b) (hb : b ≤ xs.length)
    (ih : ∀ a' m' b', b' - a' < b - a → a' < m' → m' < b' → b' ≤ xs.length → ∀ W, Srt g xs rest w W → Calls Tryz.prog 221 #[.slice (some ⟨g, 0, none⟩) xs.length cap, .int .i64 (a' : Int), .int .i64 (m' : Int), .int .i64 (b' : Int), cmpF pb] W fun e w' => e = .returned (.tuple #[]) ∧ Srt g xs rest w w')
    {wr : World} (R : Srt g xs rest w wr) :
    Calls Tryz.prog 221 #[.slice (some ⟨g, 0, none⟩) xs.length cap, .int .i64 (a : Int), .int .i64 (m : Int), .int .i64 (b : Int), cmpF pb] wr fun e w' => e = .returned (.tuple #[]) ∧ Srt g xs rest w w' := by
  have R0 := Lib.hid R
  have HC := Lib.hid C
  have IH := Lib.hid ih
  clear R C ih
  unfold cmpF at *
  obtain ⟨d, hd⟩ : ∃ d : Nat, m - a = d := ⟨_, rfl⟩
  have s1 : IntKind.i64.wrap ((m : Int) - (a : Int)) = (d : Int) := by rw [show (m : Int) - (a : Int) = (d : Int) by omega]; exact wrap_in (by omega) (by omega)
  have e1 : ((d : Int) == 1) = false := beq_eq_false_iff_ne.2 (by omega)
  obtain ⟨d2, hd2⟩ : ∃ d2 : Nat, b - m = d2 := ⟨_, rfl⟩
  have s2 : IntKind.i64.wrap ((b : Int) - (m : Int)) = (d2 : Int) := by rw [show (b : Int) - (m : Int) = (d2 : Int) by omega]; exact wrap_in (by omega) (by omega)
  have e2 : ((d2 : Int) == 1) = false := beq_eq_false_iff_ne.2 (by omega)
  obtain ⟨sm, md, q1, q2, q3, q4, q5, q6, q7, q8⟩ := midd_of (i := a) (j := b) (x := b) (Nat.le_refl _) (by omega) (by omega)
  obtain ⟨n0, hn0⟩ : ∃ n0, md + m = n0 := ⟨_, rfl⟩
  have s3 : IntKind.i64.wrap ((md : Int) + (m : Int)) = (n0 : Int) := by rw [show (md : Int) + (m : Int) = (n0 : Int) by omega]; exact wrap_in (by omega) (by omega)
  obtain ⟨pn, hpn⟩ : ∃ pn, n0 - 1 = pn := ⟨_, rfl⟩
  have s4 : IntKind.i64.wrap ((n0 : Int) - 1) = (pn : Int) := by rw [show (n0 : Int) - 1 = (pn : Int) by omega]; exact wrap_in (by omega) (by omega)
  have hmd : 2 * md ≤ a + b ∧ a + b ≤ 2 * md + 1 := by omega
  obtain ⟨s0, r0, hcase⟩ : ∃ s0 r0 : Nat, ((md : Int) < (m : Int) ∧ s0 = n0 - b ∧ r0 = md) ∨ (¬ (md : Int) < (m : Int) ∧ s0 = a ∧ r0 = m) := by
    by_cases h : (md : Int) < (m : Int)
    · exact ⟨_, _, .inl ⟨h, rfl, rfl⟩⟩
    · exact ⟨_, _, .inr ⟨h, rfl, rfl⟩⟩
  have HS : Hid (a ≤ s0 ∧ s0 ≤ r0 ∧ r0 ≤ m ∧ r0 ≤ md ∧ n0 ≤ b + s0 ∧ a < md ∧ md < b ∧ md + m = n0 ∧ n0 = pn + 1) := Lib.hid (by omega)
  have s5 : (md : Int) < (m : Int) → IntKind.i64.wrap ((n0 : Int) - (b : Int)) = (s0 : Int) := fun h => by rw [show (n0 : Int) - (b : Int) = (s0 : Int) by omega]; exact wrap_in (by omega) (by omega)
  clear hd hd2 hmd hn0 hpn
  go_enter Tryz.func221, Tryz.ntmps221
  rcases hcase with ⟨hmm, hs, hr⟩ | ⟨hmm, hs, hr⟩
  all_goals
    first
    | have s6 := s5 hmm
    | skip
    clear s5
    go_wp2_with fail
    go_loopw [20, 21] (fun iv jv W => ∃ i j : Nat, s0 ≤ i ∧ i ≤ j ∧ j ≤ r0 ∧ iv = .int .i64 i ∧ jv = .int .i64 j ∧ Hid (Srt g xs rest w W)) (fun iv jv _ => (intOf jv).toNat - (intOf iv).toNat)
    case atStart => exact ⟨s0, r0, Nat.le_refl _, HS.out.2.1, Nat.le_refl _, by first | rfl | rw [hs], by first | rfl | rw [hr], R0⟩
    case round =>
      clear R0 s1 s2 s3 s4 e1 e2 q1 q2 q3 q4 q5 q6 q7 q8
      obtain ⟨i, j, hi, hij, hj, rfl, rfl, R⟩ := hrel
      have hs9 := HS.out
      by_cases hlt : (i : Int) < (j : Int)
      · obtain ⟨s, h, q1, q2, q3, q4, q5, q6, q7, q8⟩ := midd_of (i := i) (j := j) (x := b) (by omega) (by omega) (by omega)
        obtain ⟨ph, hph⟩ : ∃ ph, pn - h = ph := ⟨_, rfl⟩
        have s7 : IntKind.i64.wrap ((pn : Int) - (h : Int)) = (ph : Int) := by rw [show (pn : Int) - (h : Int) = (ph : Int) by omega]; exact wrap_in (by omega) (by omega)
        obtain ⟨y, hy, c1, f1⟩ := R.out.at (p := h) (by omega)
        obtain ⟨z, hz, c2, f2⟩ := R.out.at (p := ph) (by omega)
        have b1 : (h : Int) < (xs.length : Int) := by omega
        have b2 : (ph : Int) < (xs.length : Int) := by omega
        have KC := Lib.hid (fun W (h : Ap g w W) => HC.out W h z hz y hy)
        obtain ⟨h1, hh1⟩ : ∃ h1, h + 1 = h1 := ⟨_, rfl⟩
        have t1 : IntKind.i64.wrap ((h : Int) + 1) = (h1 : Int) := by rw [show (h : Int) + 1 = (h1 : Int) by omega]; exact wrap_in (by omega) (by omega)
        clear hs9 hph
        go_wp2_with fail
        have R2 : Hid (Srt g xs rest w wr.drew) := Lib.hid (R.out.draws 1)
        go_still_tail 11, (by kernel_rfl)
        change wpList _ _ _ _ _ wr.drew
        clear R c1 c2 f1 f2
        generalize wr.drew = w2 at *
        go_wp2_with fail
        (with_reducible refine (KC.out w2 R2.out.ap).mono ?_)
        rintro e w3 ⟨⟨zz, rfl⟩, hb3⟩
        have R3 := Lib.hid (R2.out.on hb3)
        clear hb3 KC R2
        by_cases hzz : zz < 0
        all_goals
          go_wp2_with fail
          all_goals
            go_roundw
            case rel => first
              | exact ⟨i, h, by omega, by omega, by omega, rfl, rfl, R3⟩
              | exact ⟨h1, j, by omega, by omega, by omega, rfl, rfl, R3⟩
            case measure => simp [intOf]; omega
      · obtain ⟨en, hen⟩ : ∃ en, n0 - i = en := ⟨_, rfl⟩
        have s8 : IntKind.i64.wrap ((n0 : Int) - (i : Int)) = (en : Int) := by rw [show (n0 : Int) - (i : Int) = (en : Int) by omega]; exact wrap_in (by omega) (by omega)
        have KR := Lib.hid (fun (h1 : (i : Int) < (m : Int)) (h2 : (m : Int) < (en : Int)) (W : World) (h : Srt g xs rest w W) => rotate_any (cap := cap) (fv := .func (.func 175) #[] #[pb]) h (by omega) i m en (by omega) (by omega) (by omega))
        have K1 := Lib.hid (fun (h1 : (a : Int) < (i : Int)) (h2 : (i : Int) < (md : Int)) => IH.out a i md (by omega) (by omega) (by omega) (by omega))
        have K2 := Lib.hid (fun (h1 : (md : Int) < (en : Int)) (h2 : (en : Int) < (b : Int)) => IH.out md en b (by omega) (by omega) (by omega) (by omega))
        have hAA : ((i : Int) < (m : Int) ∧ (md : Int) < (en : Int)) ∨ (¬ (i : Int) < (m : Int) ∧ ¬ (md : Int) < (en : Int)) := by omega
        have hBB : ((m : Int) < (en : Int) ∧ (i : Int) < (md : Int)) ∨ (¬ (m : Int) < (en : Int) ∧ ¬ (i : Int) < (md : Int)) := by omega
        clear hs9 hen
        rcases hAA with ⟨hA1, hA2⟩ | ⟨hA1, hA2⟩
        all_goals rcases hBB with ⟨hB1, hB2⟩ | ⟨hB1, hB2⟩
        all_goals by_cases hC1 : (a : Int) < (i : Int)
        all_goals by_cases hD1 : (en : Int) < (b : Int)
        all_goals
          go_wp2_with fail
          try
            (with_reducible refine (KR.out hA1 hB1 _ R.out).mono ?_)
            rintro e w5 ⟨rfl, h5⟩
            have R := Lib.hid h5
            clear h5
            go_wp2_with fail
          try
            (with_reducible refine (K1.out hC1 hB2 _ R.out).mono ?_)
            rintro e w6 ⟨rfl, h6⟩
            have R := Lib.hid h6
            clear h6
            go_wp2_with fail
          try
            (with_reducible refine (K2.out hA2 hD1 _ R.out).mono ?_)
            rintro e w7 ⟨rfl, h7⟩
            have R := Lib.hid h7
            clear h7
            go_wp2_with fail
          all_goals go_end0
          all_goals exact ⟨rfl, R.out⟩
theorem symmerge_any (C : CmpOk g xs pb w) (hx : xs.length ≤ 4611686018427387000) : ∀ (N a m b : Nat), b - a ≤ N → a < m → m < b → b ≤ xs.length → ∀ W, Srt g xs rest w W →
    Calls Tryz.prog 221 #[.slice (some ⟨g, 0, none⟩) xs.length cap, .int .i64 (a : Int), .int .i64 (m : Int), .int .i64 (b : Int), cmpF pb] W fun e w' => e = .returned (.tuple #[]) ∧ Srt g xs rest w w'
  | 0, a, m, b, h, ha, hm, hb, W, R => absurd h (by omega)
  | N + 1, a, m, b, h, ha, hm, hb, W, R => by
    by_cases h1 : a + 1 = m
    · exact symone_any C R hx a m b h1 hm hb
    by_cases h2 : m + 1 = b
    · exact symtwo_any C R hx a m b (by omega) h2 hb
    exact symgen_any C hx a m b (by omega) (by omega) hb (fun a' m' b' k1 k2 k3 k4 W' R' => symmerge_any C hx N a' m' b' (by omega) k2 k3 k4 W' R') R
end
end Go.Proofs.YtpmdnbdmocdngaaGreat

namespace Go.Proofs.YtpmdnbdmocdngaaGreat
open Go.ChangeShapes Go.WideShapes Go.ChangeAt Go.RowKit
set_option linter.unusedVariables false
set_option linter.unusedSimpArgs false

section
variable {w wr : World} {g cap : Nat} {xs : List Int} {rest : List Value} {pb : Value}
set_option maxHeartbeats 3200000 in
set_option maxRecDepth 4000 in
theorem stable_any (C : CmpOk g xs pb w) (R : Srt g xs rest w wr) (hx : xs.length ≤ 1152921504606846976) :
    Calls Tryz.prog 207 #[.slice (some ⟨g, 0, none⟩) xs.length cap, .int .i64 (xs.length : Int), cmpF pb] wr fun e w' => e = .returned (.tuple #[]) ∧ Srt g xs rest w w' := by
  have R0 := Lib.hid R
  have KI := Lib.hid (fun (a b : Nat) (h1 : a ≤ b) (h2 : b ≤ xs.length) (W : World) (h : Srt g xs rest w W) => insertion_any (cap := cap) C h (by omega) a b h1 h2)
  have KM := Lib.hid (fun (a m b : Nat) (h1 : a < m) (h2 : m < b) (h3 : b ≤ xs.length) (W : World) (h : Srt g xs rest w W) => symmerge_any (cap := cap) C (by omega) (b - a) a m b (Nat.le_refl _) h1 h2 h3 W h)
  clear R C
  unfold cmpF at *
  obtain ⟨N, hN⟩ : ∃ N, xs.length = N := ⟨_, rfl⟩
  rw [hN] at hx KI KM
  rw [hN]
  go_enter Tryz.func207, Tryz.ntmps207
  go_wp2_with fail
  go_loopw [7, 8] (fun av bv W => ∃ a b : Nat, a ≤ N ∧ a + 20 = b ∧ av = .int .i64 a ∧ bv = .int .i64 b ∧ Hid (Srt g xs rest w W)) (fun av _ _ => N - (intOf av).toNat)
  case atStart => exact ⟨0, 20, Nat.zero_le _, rfl, rfl, rfl, R0⟩
  case round =>
    clear R0
    obtain ⟨a, b, ha, hab, rfl, rfl, R⟩ := hrel
    by_cases hlt : (b : Int) ≤ (N : Int)
    · obtain ⟨b2, hb2⟩ : ∃ b2, b + 20 = b2 := ⟨_, rfl⟩
      have t1 : IntKind.i64.wrap ((b : Int) + 20) = (b2 : Int) := by rw [show (b : Int) + 20 = (b2 : Int) by omega]; exact wrap_in (by omega) (by omega)
      go_wp2_with fail
      (with_reducible refine (KI.out a b (by omega) (by omega) _ R.out).mono ?_)
      rintro e w3 ⟨rfl, h3⟩
      have R3 := Lib.hid h3
      clear h3
      go_wp2_with fail
      go_roundw
      case rel => exact ⟨b, b2, by omega, by omega, rfl, rfl, R3⟩
      case measure => simp [intOf]; omega
    · go_wp2_with fail
      (with_reducible refine (KI.out a N (by omega) (by omega) _ R.out).mono ?_)
      rintro e w3 ⟨rfl, h3⟩
      have R3 := Lib.hid h3
      clear h3 R
      go_wp2_with fail
      go_loopw [6] (fun sv W => ∃ s : Nat, 1 ≤ s ∧ sv = .int .i64 s ∧ Hid (Srt g xs rest w W)) (fun sv _ => N - (intOf sv).toNat)
      case atStart => exact ⟨20, by omega, rfl, R3⟩
      case round =>
        clear R3
        obtain ⟨s, hs, rfl, R⟩ := hrel
        by_cases hsn : (s : Int) < (N : Int)
        · obtain ⟨wo, rfl⟩ : ∃ wo, wo = wr := ⟨_, rfl⟩
          have R4 : Hid (Srt g xs rest w wo) := R
          clear R
          obtain ⟨s2, hs2⟩ : ∃ s2, 2 * s = s2 := ⟨_, rfl⟩
          have t1 : IntKind.i64.wrap (2 * (s : Int)) = (s2 : Int) := by rw [show 2 * (s : Int) = (s2 : Int) by omega]; exact wrap_in (by omega) (by omega)
          have t2 : IntKind.i64.wrap ((s : Int) * 2) = (s2 : Int) := by rw [show (s : Int) * 2 = (s2 : Int) by omega]; exact wrap_in (by omega) (by omega)
          go_wp2_with fail
          go_loopw [7, 8] (fun av bv W => ∃ a b : Nat, a ≤ N ∧ a + s2 = b ∧ av = .int .i64 a ∧ bv = .int .i64 b ∧ Hid (Srt g xs rest w W)) (fun av _ _ => N - (intOf av).toNat)
          case atStart => exact ⟨0, s2, Nat.zero_le _, by omega, rfl, rfl, R4⟩
          case round =>
            clear R4
            obtain ⟨a, b, ha, hab, rfl, rfl, R⟩ := hrel
            obtain ⟨m, hm⟩ : ∃ m, a + s = m := ⟨_, rfl⟩
            have t3 : IntKind.i64.wrap ((a : Int) + (s : Int)) = (m : Int) := by rw [show (a : Int) + (s : Int) = (m : Int) by omega]; exact wrap_in (by omega) (by omega)
            by_cases hlt : (b : Int) ≤ (N : Int)
            · obtain ⟨b2, hb2⟩ : ∃ b2, b + s2 = b2 := ⟨_, rfl⟩
              have t4 : IntKind.i64.wrap ((b : Int) + (s2 : Int)) = (b2 : Int) := by rw [show (b : Int) + (s2 : Int) = (b2 : Int) by omega]; exact wrap_in (by omega) (by omega)
              go_wp2_with fail
              (with_reducible refine (KM.out a m b (by omega) (by omega) (by omega) _ R.out).mono ?_)
              rintro e w5 ⟨rfl, h5⟩
              have R5 := Lib.hid h5
              clear h5
              go_wp2_with fail
              go_roundw
              case rel => exact ⟨b, b2, by omega, by omega, rfl, rfl, R5⟩
              case measure => simp [intOf]; omega
            · by_cases hmn : (m : Int) < (N : Int)
              · go_wp2_with fail
                (with_reducible refine (KM.out a m N (by omega) (by omega) (by omega) _ R.out).mono ?_)
                rintro e w5 ⟨rfl, h5⟩
                have R5 := Lib.hid h5
                clear h5
                go_wp2_with fail
                go_roundw
                case rel => exact ⟨s2, by omega, rfl, R5⟩
                case measure => simp [intOf]; omega
              · go_wp2_with fail
                go_roundw
                case rel => exact ⟨s2, by omega, rfl, R⟩
                case measure => simp [intOf]; omega
        · go_wp2_with fail
          go_end0
          exact ⟨rfl, R.out⟩
theorem sortstable_any (C : CmpOk g xs pb w) (h : HasB w g 21 (arr32 xs rest)) (hx : xs.length ≤ 1152921504606846976) :
    Calls Tryz.prog 174 #[.slice (some ⟨g, 0, none⟩) xs.length cap, cmpF pb] w fun e w' => e = .returned (.tuple #[]) ∧ Srt g xs rest w w' := by
  have K := Lib.hid (stable_any (cap := cap) C (Srt.refl h) hx)
  clear C h
  unfold cmpF at *
  go_enter Tryz.func174, Tryz.ntmps174
  go_wp2_with fail
  (with_reducible refine K.out.mono ?_)
  rintro e w3 ⟨rfl, h3⟩
  have R3 := Lib.hid h3
  clear h3
  go_wp2_with fail
  go_end0
  exact ⟨rfl, R3.out⟩
end
end Go.Proofs.YtpmdnbdmocdngaaGreat

namespace Go.Proofs.YtpmdnbdmocdngaaGreat
open Go.ChangeShapes Go.WideShapes Go.ChangeAt Go.RowKit
set_option linter.unusedVariables false
set_option linter.unusedSimpArgs false

section
variable {w wr : World} {g cap : Nat}
set_option maxHeartbeats 1600000 in
set_option maxRecDepth 4000 in
theorem cor_any {x y : Int} (hx : w.cell? ⟨g, 0, none⟩ = some (.int .i64 x)) (hy : w.cell? ⟨g, 1, none⟩ = some (.int .i64 y)) :
    Calls Tryz.prog 135 #[.slice (some ⟨g, 0, none⟩) 2 2] w fun e w' => (∃ z : Int, e = .returned (.int .i64 z)) ∧ w = w' := by
  have HX := Lib.hid hx
  have HY := Lib.hid hy
  clear hx hy
  go_enter Tryz.func135, Tryz.ntmps135
  go_wp2_with fail
  go_loopw [8] (fun v W => ∃ i : Nat, i ≤ 2 ∧ v = .int .i64 i ∧ w = W) (fun v _ => 2 - (intOf v).toNat)
  case atStart => exact ⟨0, by omega, rfl, rfl⟩
  case round =>
    obtain ⟨i, hi, rfl, rfl⟩ := hrel
    by_cases hlt : (i : Int) < 2
    · obtain ⟨z, hz⟩ : ∃ z : Int, w.cell? ⟨g, i, none⟩ = some (.int .i64 z) := by
        have h : i = 0 ∨ i = 1 := by omega
        rcases h with rfl | rfl
        · exact ⟨x, HX.out⟩
        · exact ⟨y, HY.out⟩
      by_cases h0 : z = 0
      · have e1 : (z != 0) = false := by simpa using h0
        go_wp2_with fail
        go_roundw
        case rel => exact ⟨i + 1, by omega, by go_num, trivial⟩
        case measure => simp [intOf]; omega
      · have e1 : (z != 0) = true := by simpa using h0
        go_wp2_with fail
        go_ret
        exact ⟨⟨_, rfl⟩, rfl⟩
    · go_wp2_with fail
      go_ret
      exact ⟨⟨_, rfl⟩, rfl⟩
theorem two_new {o1 o2 : Obj} {W : World} (h : ((w.alloc o1).alloc o2).drew = W) : W.heap[w.heap.size]? = some o1 ∧ W.heap[w.heap.size + 1]? = some o2 ∧ Below w.heap.size w W := by
  subst h
  refine ⟨?_, ?_, ?_⟩
  · show ((w.alloc o1).alloc o2).heap[w.heap.size]? = some o1
    rw [alloc_other (by simp)]; exact new_heap w o1
  · show ((w.alloc o1).alloc o2).heap[w.heap.size + 1]? = some o2
    have := new_heap (w.alloc o1) o2
    rwa [show (w.alloc o1).heap.size = w.heap.size + 1 by simp] at this
  · exact Below.draws (((Below.refl _ _).alloc (Nat.le_refl _) o1).alloc (by simp) o2) 1
theorem lt_of_cellF {a : Addr} {u : Value} (h : w.cell? a = some u) : a.block < w.heap.size := by
  unfold World.cell? at h
  cases e : w.heap[a.block]? with
  | none => rw [e] at h; cases h
  | some o => exact lt_of_heap e
set_option maxHeartbeats 3200000 in
set_option maxRecDepth 4000 in
theorem less_any {p b ga m capa i j : Nat} {v1 v2 : Option Addr} {n1 n2 p1 p2 : Nat} {s1 s2 r1 r2 : Int} (hb : w.cell? ⟨b, 0, none⟩ = some (ptr p)) (hh : w.cell? ⟨p, 0, none⟩ = some (.slice (some ⟨ga, 0, none⟩) m capa)) (hi : i < m) (hj : j < m) (hm : m < 2147483648)
    (x1 : w.cell? ⟨ga, i * 3, none⟩ = some (.slice v1 n1 p1)) (y1 : w.cell? ⟨ga, i * 3 + 1, none⟩ = some (.int .i64 s1)) (z1 : w.cell? ⟨ga, i * 3 + 2, none⟩ = some (.int .i64 r1))
    (x2 : w.cell? ⟨ga, j * 3, none⟩ = some (.slice v2 n2 p2)) (y2 : w.cell? ⟨ga, j * 3 + 1, none⟩ = some (.int .i64 s2)) (z2 : w.cell? ⟨ga, j * 3 + 2, none⟩ = some (.int .i64 r2)) :
    Calls Tryz.prog 175 #[.int .i32 (i : Int), .int .i32 (j : Int), ptr b] w fun e w' => (∃ z : Int, e = .returned (.int .i64 z)) ∧ Below w.heap.size w w' := by
  have b1 : (i : Int) < (m : Int) := by omega
  have b2 : (j : Int) < (m : Int) := by omega
  have z3 : b < w.heap.size := lt_of_cellF hb
  have z4 : p < w.heap.size := lt_of_cellF hh
  have z5 : ga < w.heap.size := lt_of_cellF x1
  have KO := Lib.hid (fun (W : World) (x y : Int) => cor_any (w := W.alloc (.cells #[.int .i64 x, .int .i64 y] 3)) (g := W.heap.size) (HasB.cell (new_heap W _) 0) (HasB.cell (new_heap W _) 1))
  have CC := Lib.hid (fun (x y : Int) (w : World) => Tryz.cmp_Compare_int x y w)
  go_enter Tryz.func175, Tryz.ntmps175
  go_wp2_with fail
  go_region
  all_goals clear hb hh x1 y1 z1 x2 y2 z2 z3 z4 z5 b1 b2
  · generalize hW : ((w.alloc (.cells #[.slice v1 n1 p1, .int .i64 s1, .int .i64 r1] 206)).alloc (.cells #[.slice v2 n2 p2, .int .i64 s2, .int .i64 r2] 206)).drew = W
    obtain ⟨g1, g2, bW⟩ := two_new hW
    have c1 : W.cell? ⟨w.heap.size, 0, none⟩ = some (.slice v1 n1 p1) := HasB.cell g1 0
    have c2 : W.cell? ⟨w.heap.size, 1, none⟩ = some (.int .i64 s1) := HasB.cell g1 1
    have c3 : W.cell? ⟨w.heap.size + 1, 0, none⟩ = some (.slice v2 n2 p2) := HasB.cell g2 0
    have c4 : W.cell? ⟨w.heap.size + 1, 1, none⟩ = some (.int .i64 s2) := HasB.cell g2 1
    have HB := Lib.hid bW
    clear hW g1 g2 bW
    generalize w.heap.size + 1 = u1 at *
    go_wp2_with fail
    refine wp_region_still_tail 12 (by kernel_rfl) (by kernel_rfl) ?_
    simp only [List.take_succ_cons, List.take_zero, List.drop_succ_cons, List.drop_zero]
    repeat first | still_step | still_call (CC.out _ _ _)
    try refine wpStill_nil ?_
    change wpList _ _ _ _ _ W.drew
    clear c1 c2 c3 c4
    have HB2 : Hid (Below w.heap.size w W.drew) := Lib.hid (Below.draws HB.out 1)
    generalize W.drew = W2 at *
    go_wp2_with fail
    (with_reducible refine (KO.out W2 _ _).mono ?_)
    rintro e w3 ⟨⟨z, rfl⟩, rfl⟩
    go_wp2_with fail
    go_ret
    exact ⟨⟨_, rfl⟩, HB2.out.alloc HB2.out.size _⟩
  · generalize hW : ((w.alloc (.cells #[.slice v2 n2 p2, .int .i64 s2, .int .i64 r2] 206)).alloc (.cells #[.slice v1 n1 p1, .int .i64 s1, .int .i64 r1] 206)).drew = W
    obtain ⟨g1, g2, bW⟩ := two_new hW
    have c1 : W.cell? ⟨w.heap.size + 1, 0, none⟩ = some (.slice v1 n1 p1) := HasB.cell g2 0
    have c2 : W.cell? ⟨w.heap.size + 1, 1, none⟩ = some (.int .i64 s1) := HasB.cell g2 1
    have c3 : W.cell? ⟨w.heap.size, 0, none⟩ = some (.slice v2 n2 p2) := HasB.cell g1 0
    have c4 : W.cell? ⟨w.heap.size, 1, none⟩ = some (.int .i64 s2) := HasB.cell g1 1
    have HB := Lib.hid bW
    clear hW g1 g2 bW
    generalize w.heap.size + 1 = u1 at *
    go_wp2_with fail
    refine wp_region_still_tail 12 (by kernel_rfl) (by kernel_rfl) ?_
    simp only [List.take_succ_cons, List.take_zero, List.drop_succ_cons, List.drop_zero]
    repeat first | still_step | still_call (CC.out _ _ _)
    try refine wpStill_nil ?_
    change wpList _ _ _ _ _ W.drew
    clear c1 c2 c3 c4
    have HB2 : Hid (Below w.heap.size w W.drew) := Lib.hid (Below.draws HB.out 1)
    generalize W.drew = W2 at *
    go_wp2_with fail
    (with_reducible refine (KO.out W2 _ _).mono ?_)
    rintro e w3 ⟨⟨z, rfl⟩, rfl⟩
    go_wp2_with fail
    go_ret
    exact ⟨⟨_, rfl⟩, HB2.out.alloc HB2.out.size _⟩
end
end Go.Proofs.YtpmdnbdmocdngaaGreat

namespace Go.Proofs.YtpmdnbdmocdngaaGreat
open Go.ChangeShapes Go.WideShapes Go.ChangeAt Go.RowKit
set_option linter.unusedVariables false
set_option linter.unusedSimpArgs false

theorem Ap.cell {g : Nat} {w W : World} (h : Ap g w W) {a : Addr} {u : Value} (hu : w.cell? a = some u) (hne : a.block ≠ g) : W.cell? a = some u := by
  have hl := lt_of_cellF hu
  unfold World.cell? at *
  rw [h.block _ hl hne]; exact hu
section
variable {B : Nat} {τ : Nat → Nat} {w0 w : World} {p n g b cap : Nat} {d : Sd} {xs : List Int} {pb : Value}
theorem cmp_ok (h : Sr B τ w0 p n d) (hb0 : Below w0.heap.size w0 w) (hg : w0.heap.size ≤ g) (hbx : w.cell? ⟨b, 0, none⟩ = some (ptr p)) (hbg : b ≠ g) (hl : ∀ c ∈ d.cls, 0 < c.ls.length) (hm : d.cls.length < 2147483648)
    (hx : ∀ x ∈ xs, ∃ i : Nat, i < d.cls.length ∧ x = (i : Int)) : CmpOk g xs (ptr b) w := by
  intro W hW x hxm y hym
  obtain ⟨i, hi, rfl⟩ := hx x hxm
  obtain ⟨j, hj, rfl⟩ := hx y hym
  have key : ∀ {a : Addr} {u : Value}, w0.cell? a = some u → W.cell? a = some u := fun {a u} hu => hW.cell ((hb0.cell (lt_of_cellF hu)).trans hu) (by have := lt_of_cellF hu; omega)
  obtain ⟨c1, hc1⟩ : ∃ c, d.cls[i]? = some c := ⟨_, List.getElem?_eq_getElem hi⟩
  obtain ⟨c2, hc2⟩ : ∃ c, d.cls[j]? = some c := ⟨_, List.getElem?_eq_getElem hj⟩
  obtain ⟨ga, capa, gl, capl, k1⟩ := h.claim hc1 (hl _ (List.mem_of_getElem? hc1))
  obtain ⟨ga2, capa2, gl2, capl2, k2⟩ := h.claim hc2 (hl _ (List.mem_of_getElem? hc2))
  have e := k1.head.symm.trans k2.head
  injection e with e; injection e with e _ _; injection e with e; injection e with e
  subst e
  exact less_any (hW.cell hbx hbg) (key k1.head) hi hj hm (key k1.lit) (key k1.sp) (key k1.fr) (key k2.lit) (key k2.sp) (key k2.fr)
set_option maxHeartbeats 800000 in
set_option maxRecDepth 4000 in
theorem insertion_nil : Calls Tryz.prog 220 #[.slice none 0 0, .int .i64 0, .int .i64 0, cmpF pb] w fun e w' => e = .returned (.tuple #[]) ∧ w = w' := by
  unfold cmpF
  go_enter Tryz.func220, Tryz.ntmps220
  go_wp2_with fail
  refine wp_loop_rounds 1 ?_
  rw [rounds_succ]
  go_wp2_with fail
  go_end0
  exact ⟨rfl, rfl⟩
set_option maxHeartbeats 800000 in
set_option maxRecDepth 4000 in
theorem stable_nil : Calls Tryz.prog 207 #[.slice none 0 0, .int .i64 0, cmpF pb] w fun e w' => e = .returned (.tuple #[]) ∧ w = w' := by
  have K := Lib.hid (fun w => insertion_nil (pb := pb) (w := w))
  unfold cmpF at *
  go_enter Tryz.func207, Tryz.ntmps207
  go_wp2_with fail
  refine wp_loop_rounds 1 ?_
  rw [rounds_succ]
  go_wp2_with fail
  (with_reducible refine (K.out _).mono ?_)
  rintro e w3 ⟨rfl, rfl⟩
  go_wp2_with fail
  refine wp_loop_rounds 1 ?_
  rw [rounds_succ]
  go_wp2_with fail
  go_end0
  exact ⟨rfl, rfl⟩
theorem sortstable_nil : Calls Tryz.prog 174 #[.slice none 0 0, cmpF pb] w fun e w' => e = .returned (.tuple #[]) ∧ w = w' := by
  have K := Lib.hid (fun w => stable_nil (pb := pb) (w := w))
  unfold cmpF at *
  go_enter Tryz.func174, Tryz.ntmps174
  go_wp2_with fail
  (with_reducible refine (K.out _).mono ?_)
  rintro e w3 ⟨rfl, rfl⟩
  go_wp2_with fail
  go_end0
  exact ⟨rfl, rfl⟩
end
end Go.Proofs.YtpmdnbdmocdngaaGreat

namespace Go.Proofs.YtpmdnbdmocdngaaGreat
open Go.ChangeShapes Go.WideShapes Go.ChangeAt Go.RowKit
set_option linter.unusedVariables false
set_option linter.unusedSimpArgs false

/-- The places among the first k of the claims that hung on more than two decisions. -/
def lrn (cls : List Cl) : Nat → List Int
  | 0 => []
  | k + 1 => lrn cls k ++ (match cls[k]? with | some c => if 2 < c.sp then [(k : Int)] else [] | none => [])
theorem lrn_step {cls : List Cl} {k : Nat} {c : Cl} (h : cls[k]? = some c) : lrn cls (k + 1) = if 2 < c.sp then lrn cls k ++ [(k : Int)] else lrn cls k := by
  show lrn cls k ++ _ = _
  rw [h]
  by_cases h2 : 2 < c.sp
  · simp [h2]
  · simp [h2]
theorem lrn_len (cls : List Cl) : ∀ k, (lrn cls k).length ≤ k
  | 0 => Nat.le_refl _
  | k + 1 => by
    have := lrn_len cls k
    show (lrn cls k ++ _).length ≤ k + 1
    rw [List.length_append]
    split
    · split <;> simp <;> omega
    · simp; omega
theorem lrn_mem (cls : List Cl) : ∀ k, k ≤ cls.length → ∀ x ∈ lrn cls k, ∃ i : Nat, i < cls.length ∧ x = (i : Int) ∧ ∃ c, cls[i]? = some c ∧ 2 < c.sp
  | 0, _, x, h => by cases h
  | k + 1, hk, x, h => by
    rcases List.mem_append.1 h with h | h
    · exact lrn_mem cls k (by omega) x h
    · obtain ⟨c, hc⟩ : ∃ c, cls[k]? = some c := ⟨_, List.getElem?_eq_getElem (by omega)⟩
      rw [hc] at h
      by_cases h2 : 2 < c.sp
      · simp only [if_pos h2, List.mem_singleton] at h
        exact ⟨k, by omega, h, c, hc, h2⟩
      · simp [h2] at h
section
variable {B : Nat} {τ : Nat → Nat} {w : World} {p n : Nat} {d : Sd}
theorem lrel_aloc {w wr : World} {e : TypeId} {v : Value} {l : List Value} (h : LRel w wr e v l) (o : Obj) : LRel w (wr.alloc o) e v l := ⟨h.own.alloc o, h.below.alloc h.below.size o⟩
set_option maxHeartbeats 3200000 in
set_option maxRecDepth 4000 in
theorem learned_any (h : Sr B τ w p n d) (hl : ∀ c ∈ d.cls, 0 < c.ls.length) (hm : d.cls.length < 2147483648) (hne : 0 < d.cls.length) :
    Calls Tryz.prog 131 #[ptr p] w fun e w' => Below w.heap.size w w' ∧ ∃ (A : Option Addr) (c : Nat) (ys : List Int), e = .returned (.slice A ys.length c) ∧ ys.Perm (lrn d.cls d.cls.length) ∧ SeqAt (Value.int .i32) w' A ys ∧ ((A = none ∧ c = 0) ∨ ∃ g, A = some ⟨g, 0, none⟩ ∧ w.heap.size ≤ g) ∧ ys.length ≤ c ∧ c ≤ 9223372036854775807 := by
  obtain ⟨c0, hc0⟩ : ∃ c, d.cls[0]? = some c := ⟨_, List.getElem?_eq_getElem hne⟩
  obtain ⟨ga, capa, gl0, capl0, k0⟩ := h.claim hc0 (hl _ (List.mem_of_getElem? hc0))
  have x0 := k0.head
  obtain ⟨M, hM⟩ : ∃ M, d.cls.length = M := ⟨_, rfl⟩
  rw [hM] at x0 hm hne
  have KCL : Hid (∀ (k : Nat) (c : Cl), d.cls[k]? = some c → ∃ (v : Option Addr) (nl pl : Nat), w.cell? ⟨ga, k * 3, none⟩ = some (.slice v nl pl) ∧ w.cell? ⟨ga, k * 3 + 1, none⟩ = some (.int .i64 c.sp) ∧ w.cell? ⟨ga, k * 3 + 2, none⟩ = some (.int .i64 c.fr)) := Lib.hid (fun k c hc => by
    obtain ⟨ga2, capa2, gl, capl, k2⟩ := h.claim hc (hl _ (List.mem_of_getElem? hc))
    have e := k0.head.symm.trans k2.head
    injection e with e; injection e with e _ _; injection e with e; injection e with e
    subst e
    exact ⟨_, _, _, k2.lit, k2.sp, k2.fr⟩)
  have HH := Lib.hid h
  have HL := Lib.hid hl
  have HM := Lib.hid hM
  have z4 : p < w.heap.size := lt_of_cellF x0
  have z5 : ga < w.heap.size := by obtain ⟨_, _, _, e, _⟩ := KCL.out 0 c0 hc0; exact lt_of_cellF e
  obtain ⟨i0, hi, hz0, hz1, hz2⟩ := info_parts infoI32
  have HI := Lib.hid (show _ ∧ _ ∧ _ ∧ _ from ⟨hi, hz0, hz1, hz2⟩)
  clear h hl hM k0 hc0 hi hz0 hz1 hz2
  go_enter Tryz.func131, Tryz.ntmps131
  go_wp2_with fail
  generalize hw1 : w.alloc (.cells #[ptr p] 67) = w1
  have HB1 : Hid (Below w.heap.size w w1) := Lib.hid (by rw [← hw1]; exact (Below.refl _ _).alloc (Nat.le_refl _) _)
  have HBX : Hid (w1.cell? ⟨w.heap.size, 0, none⟩ = some (ptr p)) := Lib.hid (by rw [← hw1]; exact HasB.cell (new_heap w _) 0)
  have HSZ1 : Hid (w1.heap.size = w.heap.size + 1) := Lib.hid (by rw [← hw1]; simp)
  clear hw1
  have HX0 := Lib.hid x0
  clear x0
  go_loopw [3, 11] (fun lv kv wr => ∃ (k : Nat) (A : Option Addr) (c : Nat), k ≤ M ∧ kv = .int .i64 k ∧ lv = .slice A (lrn d.cls k).length c ∧ Hid (LRel w1 wr 21 (.slice A (lrn d.cls k).length c) ((lrn d.cls k).map (Value.int .i32)))) (fun _ kv _ => M - (intOf kv).toNat)
  case atStart => exact ⟨0, none, 0, Nat.zero_le _, rfl, rfl, LRel.nil w1 _⟩
  case round =>
    obtain ⟨k, A, c, hk, rfl, rfl, R⟩ := hrel
    by_cases hlt : (k : Int) < (M : Int)
    · obtain ⟨cl, hcl⟩ : ∃ c, d.cls[k]? = some c := ⟨_, List.getElem?_eq_getElem (by have := HM.out; omega)⟩
      obtain ⟨v, nl, pl, x1, x2, x3⟩ := KCL.out k cl hcl
      have key : ∀ {a : Addr} {u : Value}, w.cell? a = some u → wr.cell? a = some u := fun {a u} hu => ((HB1.out.trans (R.out.below.mono HB1.out.size)).cell (lt_of_cellF hu)).trans hu
      have y1 := key x1
      have y2 := key x2
      have y3 := key x3
      have hst := lrn_step hcl
      have hle := lrn_len d.cls k
      have z6 : ga < wr.heap.size := lt_of_cellF y1
      clear x1 x2 x3
      obtain ⟨q, hq⟩ : ∃ q, k + 1 = q := ⟨_, rfl⟩
      have t1 : IntKind.i64.wrap ((k : Int) + 1) = (q : Int) := by rw [show (k : Int) + 1 = (q : Int) by omega]; exact wrap_in (by omega) (by omega)
      have t2 : IntKind.i32.wrap (k : Int) = (k : Int) := by rw [IntKind.wrap_i32]; omega
      rw [hq] at hst
      by_cases hsp : 2 < cl.sp
      · rw [if_pos hsp] at hst
        have HO : Hid (wr.ownsRow w1.heap.size 21 1 (.slice A (lrn d.cls k).length c) (lrn d.cls k).length ((lrn d.cls k).map (Value.int .i32))) := by
          have := R.out.own
          rwa [List.length_map] at this
        have HS := Lib.hid hst
        clear hst
        have HSZ := Lib.hid R.out.below.size
        have R2 := Lib.hid (lrel_aloc R.out (.cells #[.slice v nl pl, .int .i64 cl.sp, .int .i64 cl.fr] 206))
        generalize hln : (lrn d.cls k).length = ln at *
        have HLN := Lib.hid hln
        clear hln
        go_wp2_with (at_builtin; refine wpList_append_lies _ rfl _ _ _ rfl w1.heap.size 21 i0 _ 1 4 Tryz.underlying122 HI.out.1 HI.out.2.1 HI.out.2.2.1 HI.out.2.2.2 rfl (by omega) (.slice A ln c) ln ((lrn d.cls k).map (Value.int .i32)) rfl ((HO.out.alloc _).alloc _) ⟨wr.heap.size + 1, 0, none⟩ 1 1 [.int .i32 (k : Int)] rfl rfl (World.news_of_block (cs := #[.int .i32 (k : Int)]) (t := 21) (fr := (0, 0)) (new_at (W := wr.alloc (.cells #[.slice v nl pl, .int .i64 cl.sp, .int .i64 cl.fr] 206)) (by simp) rfl)) (by simp [Value.oneCell']) (by omega) (by unfold maxLen; omega) (by omega) (by have := HSZ.out; simp; omega) (wr.heap.size + 2) (by simp) ?_; intro g1 c1 wp hown1 hg1 hat1 hlt1; have HO1 := Lib.hid hown1; have HG1 := Lib.hid hg1; clear hown1 hg1 hat1 hlt1)
        go_roundw
        case rel => exact ⟨q, some ⟨g1, 0, none⟩, c1, by omega, rfl, by rw [HS.out, List.length_append, HLN.out]; rfl, by
          have hx := R2.out.more (g := g1) (cap := c1) (by rw [List.length_map, HLN.out]; exact HO1.out) HG1.out
          rw [List.length_map, HLN.out] at hx
          refine Lib.hid ?_
          rw [HS.out, List.length_append, HLN.out, List.map_append]; exact hx⟩
        case measure => simp [intOf]; omega
      · rw [if_neg hsp] at hst
        have HS := Lib.hid hst
        clear hst
        go_wp2_with fail
        go_roundw
        case rel => exact ⟨q, A, c, by omega, rfl, by rw [HS.out], by rw [HS.out]; exact lrel_aloc R.out _⟩
        case measure => simp [intOf]; omega
    · obtain rfl : M = k := by omega
      have HBW := Lib.hid (HB1.out.trans (R.out.below.mono HB1.out.size))
      have HBXr := Lib.hid ((R.out.below.cell (lt_of_cellF HBX.out)).trans HBX.out)
      have hown := R.out.own
      rw [List.length_map] at hown
      have HM2 := HM.out
      rcases hown.2 with ⟨h0, hz⟩ | ⟨g, cp, cur, h0, hg1, hg2, hg3, hg4, hg5, hg6⟩
      · injection h0 with h0 h1 h2
        subst h0; subst h2
        have KS := Lib.hid (fun w => sortstable_nil (pb := ptr w.heap.size) (w := w))
        have HZ := Lib.hid hz
        rw [hz]
        have KS2 : Hid (∀ W, Calls Tryz.prog 174 #[.slice none 0 0, cmpF (ptr w.heap.size)] W fun e w' => e = .returned (.tuple #[]) ∧ W = w') := Lib.hid (fun W => sortstable_nil)
        unfold cmpF at KS2
        clear hown hz R KS HM2 h1
        go_wp2_with fail
        (with_reducible refine (KS2.out _).mono ?_)
        rintro e w3 ⟨rfl, rfl⟩
        go_wp2_with fail
        go_ret
        exact ⟨HBW.out, none, 0, [], rfl, by rw [HM.out, List.eq_nil_of_length_eq_zero HZ.out], ⟨fun i z hz => by simp at hz⟩, .inl ⟨rfl, rfl⟩, Nat.le_refl _, by decide⟩
      · injection h0 with h0 h1 h2
        subst h0; subst h2
        have hb : HasB wr g 21 (arr32 (lrn d.cls M) (cur.toList.drop (lrn d.cls M).length)) := by
          unfold HasB arr32
          rw [hg2, ← hg6, Nat.mul_one, List.take_append_drop]
        have hgw : w.heap.size < g := by have := HSZ1.out; omega
        have C := cmp_ok (xs := lrn d.cls M) HH.out HBW.out (by omega : w.heap.size ≤ g) HBXr.out (by omega) HL.out (by omega) (fun x hx => by
          obtain ⟨i, hi, e, _⟩ := lrn_mem d.cls M (by omega) x hx
          exact ⟨i, hi, e⟩)
        have hlen := lrn_len d.cls M
        have KS := Lib.hid (sortstable_any (cap := c) C hb (by omega))
        unfold cmpF at KS
        have HG := Lib.hid hgw
        have HCP := Lib.hid (And.intro hg3 hg4)
        clear hown R C hb HM2 hg1 hg2 hg3 hg4 hg5 hg6 hgw h1
        go_wp2_with fail
        (with_reducible refine KS.out.mono ?_)
        rintro e w3 ⟨rfl, ha, ys, hp, hb3⟩
        have HA := Lib.hid ha
        have HP := Lib.hid hp
        have HB3 := Lib.hid hb3
        clear ha hp hb3 KS
        go_wp2_with fail
        go_ret
        have hbw := HBW.out
        have hgw := HG.out
        refine ⟨hbw.trans (HA.out.below (by omega) hbw.size), some ⟨g, 0, none⟩, c, ys, (by rw [HP.out.length_eq]; rfl), (by rw [HM.out]; exact HP.out), ⟨fun i z hz => ⟨_, rfl, ?_⟩⟩, .inr ⟨g, rfl, Nat.le_of_lt hgw⟩, by rw [HP.out.length_eq]; exact HCP.out.1, HCP.out.2⟩
        rw [Addr.add_lit, Nat.zero_add]
        exact (HB3.out.cell i).trans (arr32_get hz)
end
end Go.Proofs.YtpmdnbdmocdngaaGreat
