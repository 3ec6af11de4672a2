/-
  The law DpllPigeons: so many pigeons in so many holes, one a hole: there is a way just if there are holes enough.
-/
import Derived.Test.YtpmdnbdmocdngaaGreatMh46
import Derived.Test.YtpmdnbdmocdngaaGreatMh48
import Derived.Test.YtpmdnbdmocdngaaGreatMh52
import Derived.Test.YtpmdnbdmocdngaaGreatMh38
import Derived.Test.YtpmdnbdmocdngaaGreatMh39
import Derived.Test.YtpmdnbdmocdngaaGreatMh05
import Derived.ProofKit
namespace Go.Proofs.YtpmdnbdmocdngaaGreat.dpllPigeons
open Go.ChangeShapes Go.WideShapes Go.ChangeAt Go.RowKit
set_option linter.unusedVariables false

/-- A literal row of two, made for the call. -/
theorem lrel_two (w : World) (x y : Int) : LRel w (w.alloc (.cells #[.int .i64 x, .int .i64 y] 3)) 3 (.slice (some ⟨w.heap.size, 0, none⟩) 2 2) (ints [x, y]) :=
  ⟨World.ownsRow_lit (base := w.heap.size) (e := 3) (size := 1) w #[.int .i64 x, .int .i64 y] 2 (Nat.le_refl _) (by unfold maxLen; omega) rfl, below_alloc w _⟩
theorem pgO_snoc (M i t : Nat) : ints (pgO M i (t + 1)) = ints (pgO M i t) ++ [.int .i64 ((i * M + t + 1 : Nat) : Int)] := by
  show ints (pgO M i t ++ _) = _
  unfold ints; rw [List.map_append]; rfl
theorem pg_row {m n : Nat} {c : List Int} (h : c ∈ pg m n) : c.length ≤ m + 2 := by
  obtain ⟨i, _, rfl | ⟨j, _, s, _, rfl⟩⟩ := mem_pg.1 h
  · rw [pgO_len]; omega
  · show 2 ≤ _; omega
theorem pg_small (m : Nat) : ∀ n, n ≤ 5 → m ≤ 4 → (pg m n).length ≤ 21 * n
  | 0, _, _ => Nat.le_refl _
  | n + 1, hn, hm => by
    have ih := pg_small m n (by omega) hm
    show ((pg m n ++ [pgO m n m]) ++ pgRows m n n).length ≤ _
    rw [List.length_append, List.length_append, pgRows_len]
    have : n * m ≤ 4 * 4 := Nat.mul_le_mul (by omega) hm
    simp
    omega
theorem may_of {k : Nat} {f : List (List Int)} (hk : k ≤ 65536) (h : FOk k f) : mayM (k : Int) f = true := by
  unfold mayM
  rw [Bool.and_eq_true]
  refine ⟨decide_eq_true (by omega), List.all_eq_true.2 fun c hc => List.all_eq_true.2 fun l hl => ?_⟩
  have := h c hc l hl
  unfold LOk at this
  exact (okL_ref (by omega) (by omega) (by unfold Wf; omega)).2 (by omega)
theorem pg_may {m n : Nat} (h : n * m ≤ 65536) : mayM ((n * m : Nat) : Int) (pg m n) = true := may_of (by omega) (pg_ok m n)
theorem pg_wf {m n : Nat} (h : n * m ≤ 65536) : ∀ c ∈ pg m n, ∀ l ∈ c, Wf l := fun c hc l hl => by
  have := pg_ok m n c hc l hl
  unfold LOk at this; unfold Wf; omega

set_option maxHeartbeats 6400000 in
set_option maxRecDepth 100000 in
theorem walk (a0 a1 : Int) (w : World) (h0 : (Lit.int .u8 a0).wf = true) (h1 : (Lit.int .u8 a1).wf = true) :
    Calls Tryz.prog 6 #[.int .u8 a0, .int .u8 a1] w fun e w' => e = .returned (.bool true) ∧ Below w.heap.size w w' := by
  obtain ⟨h3, h4⟩ := u8_wf h0
  obtain ⟨h5, h6⟩ := u8_wf h1
  obtain ⟨n0, hk, hk2⟩ := rem_to a0 h3 5 (by decide)
  obtain ⟨m0, hk3, hk4⟩ := rem_to a1 h5 4 (by decide)
  have hk' : a0.tmod 5 = (n0 : Int) := hk
  have hk3' : a1.tmod 4 = (m0 : Int) := hk3
  obtain ⟨N, hN⟩ : ∃ N, 1 + n0 = N := ⟨_, rfl⟩
  obtain ⟨M, hM⟩ : ∃ M, 1 + m0 = M := ⟨_, rfl⟩
  have hNw : IntKind.i64.wrap (1 + (n0 : Int)) = (N : Int) := by rw [IntKind.wrap_i64]; omega
  have hMw : IntKind.i64.wrap (1 + (m0 : Int)) = (M : Int) := by rw [IntKind.wrap_i64]; omega
  have hN5 : 1 ≤ N ∧ N ≤ 5 := by omega
  have hM4 : 1 ≤ M ∧ M ≤ 4 := by omega
  have HB5 := Lib.hid (And.intro hN5 hM4)
  obtain ⟨i0, hi, hz0, hz1, hz2⟩ := info_parts infoRow
  have HI := Lib.hid (show _ ∧ _ ∧ _ ∧ _ from ⟨hi, hz0, hz1, hz2⟩)
  obtain ⟨i1, hi1, hy0, hy1, hy2⟩ := info_parts infoInt
  have HJ := Lib.hid (show _ ∧ _ ∧ _ ∧ _ from ⟨hi1, hy0, hy1, hy2⟩)
  clear hi hz0 hz1 hz2 hi1 hy0 hy1 hy2 h0 h1 hk hk3 hN hM hN5 hM4
  go_enter Tryz.func6, Tryz.ntmps6
  go_wp2_with fail
  refine (awake6_any _).mono ?_
  rintro e w1 ⟨rfl, hb⟩
  have HB1 := Lib.hid hb
  clear hb
  go_wp2_with fail
  go_loopw [7, 8] (fun cv iv wr => ∃ (i : Nat) (G : Option Addr) (gc : Nat) (news : List Value), i ≤ N ∧ iv = .int .i64 i ∧ cv = .slice G news.length gc ∧ Hid (LRel w1 wr 36 (.slice G news.length gc) news) ∧ Hid (RowsU w1 wr news (pg M i))) (fun _ iv _ => N - (intOf iv).toNat)
  case atStart => exact ⟨0, none, 0, [], Nat.zero_le _, rfl, rfl, LRel.nil w1 _, Lib.hid ⟨rfl, fun i c hc => by simp [pg] at hc⟩⟩
  case round =>
    obtain ⟨i, G, gc, news, hi, rfl, rfl, R, RW⟩ := hrel
    have hbd := HB5.out
    by_cases hlt : i < N
    · obtain ⟨wo, rfl⟩ : ∃ wo, wo = wr := ⟨_, rfl⟩
      have R0 : Hid (LRel wo wo 3 (.slice none 0 0) (ints (pgO M i 0))) := LRel.nil wo _
      have hiN : (i : Int) < (N : Int) := by omega
      have hiM : i * M ≤ 20 := Nat.mul_le_mul (show i ≤ 5 by omega) (show M ≤ 4 by omega)
      obtain ⟨q, hq⟩ : ∃ q, i * M = q := ⟨_, rfl⟩
      have eq1 : IntKind.i64.wrap ((i : Int) * (M : Int)) = (q : Int) := by rw [← Int.natCast_mul, hq, IntKind.wrap_i64]; omega
      rw [hq] at hiM
      have HQ := Lib.hid hq
      have HNB : Hid (news.length ≤ 200) := by
        have h1 := RW.out.1
        have h2 := pg_small M i (by omega) (by omega)
        show news.length ≤ 200; omega
      clear hq
      go_wp2_with fail
      go_loopw [9, 10] (fun sv tv wr => ∃ (t : Nat) (C : Option Addr) (cc : Nat), t ≤ M ∧ tv = .int .i64 t ∧ sv = .slice C t cc ∧ Hid (LRel wo wr 3 (.slice C t cc) (ints (pgO M i t)))) (fun _ tv _ => M - (intOf tv).toNat)
      case atStart => exact ⟨0, none, 0, Nat.zero_le _, rfl, rfl, R0⟩
      case round =>
        obtain ⟨t, C, cc, ht, rfl, rfl, S⟩ := hrel
        clear R0
        have HLN := Lib.hid (show (ints (pgO M i t)).length = t by rw [List.length_map, pgO_len])
        have HSZ := Lib.hid S.out.below.size
        by_cases hlt2 : t < M
        · have HO : Hid (wr.ownsRow wo.heap.size 3 1 (.slice C t cc) t (ints (pgO M i t))) := by
            have := S.out.own
            rwa [HLN.out] at this
          have htM : (t : Int) < (M : Int) := by omega
          obtain ⟨r, hr⟩ : ∃ r, q + t = r := ⟨_, rfl⟩
          obtain ⟨y, hy⟩ : ∃ y : Int, (r : Int) + 1 = y := ⟨_, rfl⟩
          have e2 : IntKind.i64.wrap ((q : Int) + (t : Int)) = (r : Int) := by rw [IntKind.wrap_i64]; omega
          have e3 : IntKind.i64.wrap ((r : Int) + 1) = y := by rw [IntKind.wrap_i64]; omega
          have HY : Hid (((i * M + t + 1 : Nat) : Int) = y) := by rw [HQ.out, hr]; exact Lib.hid (by rw [← hy]; rfl)
          clear hy hr
          go_wp2_with (at_builtin; refine wpList_append_lies _ rfl _ _ _ rfl wo.heap.size 3 i1 _ 1 8 Tryz.underlying36 HJ.out.1 HJ.out.2.1 HJ.out.2.2.1 HJ.out.2.2.2 rfl (by omega) (.slice C t cc) t (ints (pgO M i t)) rfl (HO.out.alloc _) ⟨wr.heap.size, 0, none⟩ 1 1 [.int .i64 _] rfl rfl (World.news_of_block (cs := #[.int .i64 _]) (t := 3) (fr := (0, 0)) (new_heap wr _)) (by simp [Value.oneCell']) (by omega) (by unfold maxLen; omega) (by omega) (by have := HSZ.out; simp; omega) (wr.heap.size + 1) (by simp) ?_; intro g1 c1 wp hown1 hg1 hat1 hlt1; have HO1 := Lib.hid hown1; have HG1 := Lib.hid hg1; clear hown1 hg1 hat1 hlt1)
          go_roundw
          case rel => exact ⟨t + 1, some ⟨g1, 0, none⟩, c1, by omega, by go_num, rfl, by
            have hx := S.out.more (g := g1) (cap := c1) (by rw [HLN.out]; exact HO1.out) HG1.out
            rw [HLN.out] at hx
            refine Lib.hid ?_
            rw [pgO_snoc, HY.out]; exact hx⟩
          case measure => simp [intOf]; omega
        · obtain rfl : M = t := by omega
          have HRI : Hid (wr.ownsRow w1.heap.size 36 1 (.slice G news.length gc) news.length news) := Lib.hid (row_belowU R.out.own S.out.below)
          have HSZ2 := Lib.hid (Nat.le_trans R.out.below.size S.out.below.size)
          have S2 : Hid (LRel wo wr 3 (.slice C (pgO M i M).length cc) (ints (pgO M i M))) := Lib.hid (by rw [pgO_len]; exact S.out)
          have hnb := HNB.out
          clear S HSZ HLN
          go_wp2_with (at_builtin; refine wpList_append_lies _ rfl _ _ _ rfl w1.heap.size 36 i0 _ 1 24 Tryz.underlying22 HI.out.1 HI.out.2.1 HI.out.2.2.1 HI.out.2.2.2 rfl (by omega) (.slice G news.length gc) news.length news rfl (HRI.out.alloc _) ⟨wr.heap.size, 0, none⟩ 1 1 [.slice C M cc] rfl rfl (World.news_of_block (cs := #[.slice C M cc]) (t := 36) (fr := (0, 0)) (new_heap wr _)) (by simp [Value.oneCell']) (by omega) (by unfold maxLen; omega) (by omega) (by have := HSZ2.out; simp; omega) (wr.heap.size + 1) (by simp) ?_; intro g1 c1 wp hown1 hg1 hat1 hlt1; have HO1 := Lib.hid hown1; have HG1 := Lib.hid hg1; clear hown1 hg1 hat1 hlt1)
          have HNX := Lib.hid (rows_next R.out rfl RW.out S2.out HG1.out (by rw [pgO_len]; exact HO1.out))
          rw [pgO_len] at HNX
          clear R RW HRI S2 HO1 HG1 HSZ2
          go_loopw [7, 11] (fun cv kv wr => ∃ (k : Nat) (G : Option Addr) (gc : Nat) (news : List Value), k ≤ i ∧ kv = .int .i64 k ∧ cv = .slice G news.length gc ∧ Hid (LRel w1 wr 36 (.slice G news.length gc) news) ∧ Hid (RowsU w1 wr news ((pg M i ++ [pgO M i M]) ++ pgRows M i k))) (fun _ kv _ => i - (intOf kv).toNat)
          case atStart => exact ⟨0, some ⟨g1, 0, none⟩, c1, news ++ [.slice C M cc], Nat.zero_le _, rfl, by simp, by rw [List.length_append]; exact Lib.hid HNX.out.1, Lib.hid (by rw [show pgRows M i 0 = [] from rfl, List.append_nil]; exact HNX.out.2)⟩
          case round =>
            obtain ⟨k, G, gc, news, hk, rfl, rfl, R, RW⟩ := hrel
            clear HNX
            by_cases hlt3 : k < i
            · have hki : (k : Int) < (i : Int) := by omega
              have R0 : Hid (LRel w1 wr 36 (.slice G news.length gc) news) := R
              have RW0 : Hid (RowsU w1 wr news (((pg M i ++ [pgO M i M]) ++ pgRows M i k) ++ pgRow M i k 0)) := Lib.hid (by rw [show pgRow M i k 0 = [] from rfl, List.append_nil]; exact RW.out)
              have hkM : k * M ≤ 20 := Nat.mul_le_mul (show k ≤ 5 by omega) (show M ≤ 4 by omega)
              obtain ⟨q2, hq2⟩ : ∃ q2, k * M = q2 := ⟨_, rfl⟩
              have eq2 : IntKind.i64.wrap ((k : Int) * (M : Int)) = (q2 : Int) := by rw [← Int.natCast_mul, hq2, IntKind.wrap_i64]; omega
              rw [hq2] at hkM
              have HQ2 := Lib.hid hq2
              clear hq2 R RW
              go_wp2_with fail
              go_loopw [7, 12] (fun cv tv wr => ∃ (t : Nat) (G : Option Addr) (gc : Nat) (news : List Value), t ≤ M ∧ tv = .int .i64 t ∧ cv = .slice G news.length gc ∧ Hid (LRel w1 wr 36 (.slice G news.length gc) news) ∧ Hid (RowsU w1 wr news (((pg M i ++ [pgO M i M]) ++ pgRows M i k) ++ pgRow M i k t))) (fun _ tv _ => M - (intOf tv).toNat)
              case atStart => exact ⟨0, G, gc, news, Nat.zero_le _, rfl, rfl, R0, RW0⟩
              case round =>
                obtain ⟨t, G, gc, news, ht, rfl, rfl, R, RW⟩ := hrel
                clear R0 RW0
                by_cases hlt4 : t < M
                · have htM : (t : Int) < (M : Int) := by omega
                  obtain ⟨r, hr⟩ : ∃ r, q + t = r := ⟨_, rfl⟩
                  obtain ⟨y, hy⟩ : ∃ y : Int, (r : Int) + 1 = y := ⟨_, rfl⟩
                  obtain ⟨z, hz⟩ : ∃ z : Int, -y = z := ⟨_, rfl⟩
                  obtain ⟨r2, hr2⟩ : ∃ r2, q2 + t = r2 := ⟨_, rfl⟩
                  obtain ⟨y2, hy2⟩ : ∃ y2 : Int, (r2 : Int) + 1 = y2 := ⟨_, rfl⟩
                  obtain ⟨z2, hz2⟩ : ∃ z2 : Int, -y2 = z2 := ⟨_, rfl⟩
                  have e2 : IntKind.i64.wrap ((q : Int) + (t : Int)) = (r : Int) := by rw [IntKind.wrap_i64]; omega
                  have e3 : IntKind.i64.wrap ((r : Int) + 1) = y := by rw [IntKind.wrap_i64]; omega
                  have e4 : IntKind.i64.wrap (-y) = z := by rw [IntKind.wrap_i64]; omega
                  have e5 : IntKind.i64.wrap ((q2 : Int) + (t : Int)) = (r2 : Int) := by rw [IntKind.wrap_i64]; omega
                  have e6 : IntKind.i64.wrap ((r2 : Int) + 1) = y2 := by rw [IntKind.wrap_i64]; omega
                  have e7 : IntKind.i64.wrap (-y2) = z2 := by rw [IntKind.wrap_i64]; omega
                  have HY : Hid (pgTwo M i k t = [z, z2]) := Lib.hid (by
                    unfold pgTwo
                    rw [HQ.out, HQ2.out, hr, hr2, ← hz, ← hz2, ← hy, ← hy2]; rfl)
                  have HRI : Hid (wr.ownsRow w1.heap.size 36 1 (.slice G news.length gc) news.length news) := R.out.own
                  have HSZ2 := Lib.hid R.out.below.size
                  have hnb : news.length ≤ 200 := by
                    have h1 := RW.out.1
                    have h2 := pg_small M i (by omega) (by omega)
                    rw [List.length_append, List.length_append, List.length_append, pgRows_len, pgRow_len, HQ2.out] at h1
                    simp at h1; omega
                  clear hr hy hz hr2 hy2 hz2
                  go_wp2_with (at_builtin; refine wpList_append_lies _ rfl _ _ _ rfl w1.heap.size 36 i0 _ 1 24 Tryz.underlying22 HI.out.1 HI.out.2.1 HI.out.2.2.1 HI.out.2.2.2 rfl (by omega) (.slice G news.length gc) news.length news rfl ((HRI.out.alloc _).alloc _) ⟨wr.heap.size + 1, 0, none⟩ 1 1 [.slice (some ⟨wr.heap.size, 0, none⟩) 2 2] rfl rfl (World.news_of_block (cs := #[.slice (some ⟨wr.heap.size, 0, none⟩) 2 2]) (t := 36) (fr := (0, 0)) (new_at (W := wr.alloc (.cells #[.int .i64 z, .int .i64 z2] 3)) (by simp) rfl)) (by simp [Value.oneCell']) (by omega) (by unfold maxLen; omega) (by omega) (by have := HSZ2.out; simp; omega) (wr.heap.size + 2) (by simp) ?_; intro g1 c1 wp hown1 hg1 hat1 hlt1; have HO1 := Lib.hid hown1; have HG1 := Lib.hid hg1; clear hown1 hg1 hat1 hlt1)
                  have HNX := Lib.hid (rows_next (d := [z, z2]) R.out rfl RW.out (lrel_two wr z z2) HG1.out HO1.out)
                  go_roundw
                  case rel => exact ⟨t + 1, some ⟨g1, 0, none⟩, c1, news ++ [.slice (some ⟨wr.heap.size, 0, none⟩) 2 2], by omega, by go_num, by simp, by rw [List.length_append]; exact Lib.hid HNX.out.1, Lib.hid (by rw [show pgRow M i k (t + 1) = pgRow M i k t ++ [pgTwo M i k t] from rfl, HY.out, ← List.append_assoc]; exact HNX.out.2)⟩
                  case measure => simp [intOf]; omega
                · obtain rfl : M = t := by omega
                  go_wp2_with fail
                  go_roundw
                  case rel => exact ⟨k + 1, G, gc, news, by omega, by go_num, rfl, R, Lib.hid (by rw [show pgRows M i (k + 1) = pgRows M i k ++ pgRow M i k M from rfl, ← List.append_assoc]; exact RW.out)⟩
                  case measure => simp [intOf]; omega
            · obtain rfl : i = k := by omega
              go_wp2_with fail
              go_roundw
              case rel => exact ⟨i + 1, G, gc, news, by omega, by go_num, rfl, R, RW⟩
              case measure => simp [intOf]; omega
    · obtain rfl : N = i := by omega
      have hP : N * M ≤ 20 := Nat.mul_le_mul (show N ≤ 5 by omega) (show M ≤ 4 by omega)
      have hpl : (pg M N).length = news.length := RW.out.1.symm
      have hps := pg_small M N (by omega) (by omega)
      have HFG : Hid (FormAt wr G (pg M N)) := Lib.hid (own_form2 (n := news.length) (cap := gc) R.out.own (RW.out.ok (fun c hc => by have := pg_row hc; omega)) (pg_wf (by omega)))
      have HB2 := Lib.hid (Below.on HB1.out R.out.below)
      have CS : Hid (Calls Tryz.prog 10 #[.int .i64 ((N * M : Nat) : Int), .slice G news.length gc, .int .i64 1099511627776] wr (SfPost (N * M) (pg M N) wr)) := Lib.hid (by
        have := solve_full (n := N * M) (fcap := gc) HFG.out (pg_may (by omega)) hP (by omega) (fun c hc => by have := pg_row hc; omega)
        rwa [hpl] at this)
      have HNM : Hid (∀ m : List Bool, m.length = N * M → evalM m (pg M N) = true → N ≤ M) := Lib.hid (fun m hm he => pg_le (by omega) hm he)
      have HMN : Hid (many (N * M) (pg M N) = 0 → ¬ N ≤ M) := Lib.hid (fun h0 hle => by
        have := many_pos (pgSol_len M N) (pg_sol M (by omega) N (by omega) hle)
        omega)
      obtain ⟨P, hPq⟩ : ∃ P, N * M = P := ⟨_, rfl⟩
      have eP : IntKind.i64.wrap ((N : Int) * (M : Int)) = (P : Int) := by rw [← Int.natCast_mul, hPq, IntKind.wrap_i64]; omega
      rw [hPq] at CS HNM HMN hP
      have HPL := Lib.hid (And.intro hpl hps)
      clear hpl hps hPq R RW
      go_wp2_with fail
      (with_reducible refine CS.out.mono ?_)
      rintro e w3 ⟨b3, ⟨m, g, rfl, _, hb, hm, he⟩ | ⟨rfl, h0⟩⟩
      · have hle : (N : Int) ≤ (M : Int) := by have := HNM.out m hm he; omega
        have HB3 := Lib.hid (Below.on HB2.out b3)
        have HS3 : Hid (SeqAt Value.bool w3 (some ⟨g, 0, none⟩) m) := Lib.hid ⟨fun i z hz => ⟨_, rfl, by rw [add_at]; exact (hb.cell i).trans (by simp [hz])⟩⟩
        have CE := Lib.hid (by
          have h := reval_any G (pg M N) gc (some ⟨g, 0, none⟩) m P w3 (HFG.out.keep b3) (by have := HPL.out; omega) HS3.out (by rw [hm]; omega)
          rw [HPL.out.1, hm, he] at h; exact h)
        clear b3 CS hb hm he
        go_wp2_with (go_at_call 13; ((with_reducible refine CE.out.mono ?_); rintro e w' ⟨rfl, rfl⟩))
        go_ret
        exact ⟨rfl, HB3.out⟩
      · have hle : ¬ (N : Int) ≤ (M : Int) := by have := HMN.out h0; omega
        have hdec : decide (N ≤ M) = false := decide_eq_false (by omega)
        have HB3 := Lib.hid (Below.on HB2.out b3)
        clear b3 CS h0
        go_wp2_with fail
        go_ret
        exact ⟨rfl, HB3.out⟩

theorem own : ownKnob Tryz.prog.godebug = none := by kernel_rfl
theorem cellsInt : Tryz.prog.cellsOf 3 = 1 := by kernel_rfl
set_option maxRecDepth 100000 in
theorem lifted (os : Os) (started : os.Started) (H : Type) (enc : TypeId × Value → H) :
    ReturnsInHanded {} Tryz.checked os 6 .any (Rows.dpllPigeonsSpec.pre6 enc Tryz.prog Tryz.f6 Rows.dpllPigeonsRow.domain false) (Rows.dpllPigeonsSpec.post enc Tryz.prog Tryz.f6 false true false false) := by
  refine returnsInHanded_of_change (C := Tryz.checked) own started (by kernel_rfl) Tryz.func6
    (ChangeSpec.witness6 (enc := enc) (C := Tryz.checked) false ⟨#[], #[.int .u8 0, .int .u8 0], []⟩ 8 (by kernel_rfl) (by kernel_rfl) (by kernel_rfl) (by kernel_rfl)) ?_
  intro W base args ds gs before hval0 hW hcnd _
  have hval : ∀ (j : Nat) t v, Tryz.f6.params[j]? = some t → args[j]? = some v → Value.okWide Tryz.prog W .any base t v := hval0
  have hW' := hW
  obtain ⟨p, q, hA0, hV, rfl, hfz, hnd⟩ := hW
  have hA : DataW.TrodAll enc Tryz.prog W 0 (fun _ => true) true Tryz.f6.params.toList args.toList ds p := hA0
  rw [Tryz.params6] at hA hval
  obtain ⟨v0, vs0, d0, ds0, p0, q0, hargs, rfl, rfl, h0, r0⟩ := trodAll_cons hA
  obtain ⟨v1, vs1, d1, ds1, p1, q1, rfl, rfl, rfl, h1, r1⟩ := trodAll_cons r0
  obtain ⟨rfl, rfl, rfl⟩ := trodAll_nil r1
  obtain rfl : args = #[v0, v1] := by cases args; simp_all
  obtain ⟨rfl, rfl⟩ := trodVars_none hV
  obtain ⟨a0, rfl, rfl, rfl, w0⟩ := open_int Tryz.underlying5 (hval 0 5 v0 rfl rfl) h0
  obtain ⟨a1, rfl, rfl, rfl, w1⟩ := open_int Tryz.underlying5 (hval 1 5 v1 rfl rfl) h1
  clear hA0 hval0
  simp only [List.append_nil] at hW'
  have hlt := hW'.lt
  refine (walk a0 a1 W w0 w1).mono fun e W' ⟨he, hg⟩ => ?_
  subst he
  exact ⟨_, rfl, post_kept hW' hg (fun _ _ _ => (trodAll_cons_mk (shut_bool Tryz.underlying4 _) trodAll_mk0)) (fun sp hsp => (trodAll_cons_mk (shut_int Tryz.underlying5 w0) (trodAll_cons_mk (shut_int Tryz.underlying5 w1) trodAll_mk0))) (fun _ _ => rfl) (by first | rfl | simp)
    (ok_one (by kernel_rfl) rfl (okWide_bool_mk Tryz.underlying4 _))⟩

theorem over : Rows.dpllPigeonsRow.holds Tryz.pinned (OpenSpec.ofChange Rows.dpllPigeonsSpec) :=
  OpenClaim.holds_of_wide 6 Tryz.f6 rfl rfl rfl rfl rfl rfl rfl ⟨rfl, rfl, rfl, rfl, rfl⟩ rfl rfl rfl rfl rfl (by kernel_rfl) Tryz.func6 (by kernel_rfl)
    (of_decide_eq_true (by kernel_rfl)) (by unfold Func.isWrapper; first | (rw [if_pos (by decide +kernel)]; kernel_rfl) | (rw [if_neg (by decide +kernel)]; exact ⟨rfl, rfl⟩))
    (fun os started H enc _ => lifted os started H enc)

theorem proved : Rows.DpllPigeonsSaid :=
  over
#print axioms proved
end Go.Proofs.YtpmdnbdmocdngaaGreat.dpllPigeons
