/-
  The law DpllKnown: formulas by hand: none, an empty clause, budgets of nought, pigeons that do not fit.
-/
import Derived.Test.YtpmdnbdmocdngaaGreatMh46
import Derived.Test.YtpmdnbdmocdngaaGreatMh48
import Derived.Test.YtpmdnbdmocdngaaGreatMh52
import Derived.Test.YtpmdnbdmocdngaaGreatMh38
import Derived.Test.YtpmdnbdmocdngaaGreatMh39
import Derived.Test.YtpmdnbdmocdngaaGreatMh05
import Derived.ProofKit
namespace Go.Proofs.YtpmdnbdmocdngaaGreat.dpllKnown
open Go.ChangeShapes Go.WideShapes Go.ChangeAt Go.RowKit
set_option linter.unusedVariables false

theorem lrel_three (w : World) (x y z : Int) : LRel w (w.alloc (.cells #[.int .i64 x, .int .i64 y, .int .i64 z] 3)) 3 (.slice (some ⟨w.heap.size, 0, none⟩) 3 3) (ints [x, y, z]) :=
  ⟨World.ownsRow_lit (base := w.heap.size) (e := 3) (size := 1) w #[.int .i64 x, .int .i64 y, .int .i64 z] 3 (Nat.le_refl _) (by unfold maxLen; omega) rfl, below_alloc w _⟩
/-- A literal row of two, made for the call. -/
theorem lrel_two (w : World) (x y : Int) : LRel w (w.alloc (.cells #[.int .i64 x, .int .i64 y] 3)) 3 (.slice (some ⟨w.heap.size, 0, none⟩) 2 2) (ints [x, y]) :=
  ⟨World.ownsRow_lit (base := w.heap.size) (e := 3) (size := 1) w #[.int .i64 x, .int .i64 y] 2 (Nat.le_refl _) (by unfold maxLen; omega) rfl, below_alloc w _⟩
theorem pgO_snoc (M i t : Nat) : ints (pgO M i (t + 1)) = ints (pgO M i t) ++ [.int .i64 ((i * M + t + 1 : Nat) : Int)] := by
  show ints (pgO M i t ++ _) = _
  unfold ints; rw [List.map_append]; rfl
theorem pg_row {m n : Nat} {c : List Int} (h : c ∈ pg m n) : c.length ≤ m + 2 := by
  obtain ⟨i, _, rfl | ⟨j, _, s, _, rfl⟩⟩ := mem_pg.1 h
  · rw [pgO_len]; omega
  · show 2 ≤ _; omega
theorem pg_small (m : Nat) : ∀ n, n ≤ 5 → m ≤ 4 → (pg m n).length ≤ 21 * n
  | 0, _, _ => Nat.le_refl _
  | n + 1, hn, hm => by
    have ih := pg_small m n (by omega) hm
    show ((pg m n ++ [pgO m n m]) ++ pgRows m n n).length ≤ _
    rw [List.length_append, List.length_append, pgRows_len]
    have : n * m ≤ 4 * 4 := Nat.mul_le_mul (by omega) hm
    simp
    omega
theorem may_of {k : Nat} {f : List (List Int)} (hk : k ≤ 65536) (h : FOk k f) : mayM (k : Int) f = true := by
  unfold mayM
  rw [Bool.and_eq_true]
  refine ⟨decide_eq_true (by omega), List.all_eq_true.2 fun c hc => List.all_eq_true.2 fun l hl => ?_⟩
  have := h c hc l hl
  unfold LOk at this
  exact (okL_ref (by omega) (by omega) (by unfold Wf; omega)).2 (by omega)
theorem pg_may {m n : Nat} (h : n * m ≤ 65536) : mayM ((n * m : Nat) : Int) (pg m n) = true := may_of (by omega) (pg_ok m n)
theorem pg_wf {m n : Nat} (h : n * m ≤ 65536) : ∀ c ∈ pg m n, ∀ l ∈ c, Wf l := fun c hc l hl => by
  have := pg_ok m n c hc l hl
  unfold LOk at this; unfold Wf; omega

theorem many_nil (n : Nat) : many n [] = 2 ^ n := by
  unfold many
  rw [List.filter_eq_self.2 (fun m _ => show evalM m [] = true from rfl)]
  unfold allB; simp
theorem solve_litv (w : World) (n : Nat) (f : List (List Int)) (b : Int) (h : litOk f = true) (hm : mayM (n : Int) f = true) (hn : n ≤ 10) (hb : 0 ≤ b) (hb2 : b ≤ 9223372036854775807) :
    Calls Tryz.prog 10 #[.int .i64 (n : Int), .slice (some ⟨w.heap.size + f.length, 0, none⟩) f.length f.length, .int .i64 b] ((lay w f).alloc (.cells (rv w.heap.size f).toArray 36)) (SvPost n f b w) := by
  obtain ⟨h1, h2, h3, h4⟩ := lit_form h w
  refine (solve_any (fcap := f.length) b h1 hm (by omega) (Nat.le_refl _) (by omega) h3 hb hb2 (start_ok_ten hn (by omega))).mono fun e w' k => ?_
  obtain ⟨k1, k2⟩ := k
  refine ⟨Below.on h4 k1, ?_⟩
  rcases k2 with ⟨m, g, a, c, d⟩ | k2
  · exact .inl ⟨m, g, a, Nat.le_trans h4.size c, d⟩
  · exact .inr k2
theorem solve_lit_no (w : World) (k : Int) (f : List (List Int)) (b : Int) (h : litOk f = true) (hk : Wf k) (hno : b < 0 ∨ mayM k f = false) :
    Calls Tryz.prog 10 #[.int .i64 k, .slice (some ⟨w.heap.size + f.length, 0, none⟩) f.length f.length, .int .i64 b] ((lay w f).alloc (.cells (rv w.heap.size f).toArray 36)) fun e w' => e = .returned (.tuple #[.int .i64 0, .slice none 0 0, .int .i64 1]) ∧ Below w.heap.size w w' := by
  obtain ⟨h1, h2, h3, h4⟩ := lit_form h w
  refine (solve_no (fcap := f.length) k b hk h1 (by omega) hno).mono fun e w' h => ⟨h.1, ?_⟩
  rw [← h.2]; exact h4

set_option maxHeartbeats 6400000 in
set_option maxRecDepth 100000 in
theorem walk (w : World) : Calls Tryz.prog 4 #[] w fun e w' => e = .returned (.bool true) ∧ Below w.heap.size w w' := by
  have C1 := Lib.hid (fun W => show Calls Tryz.prog 10 #[.int .i64 3, .slice none 0 0, .int .i64 0] W _ from solve_any (A := none) (f := []) (n := 3) (f0 := 10) (fcap := 0) 0 (form_none W) (by decide) (by decide) (by decide) (by decide) (fun c hc => by cases hc) (by decide) (by decide) (start_ok_ten (by decide) (by decide)))
  have C2 := Lib.hid (fun W => show Calls Tryz.prog 10 #[.int .i64 0, _, _] _ _ from solve_litv W 0 [[]] 0 (by decide) (by decide) (by decide) (by decide) (by decide))
  have C3 := Lib.hid (fun W => show Calls Tryz.prog 10 #[.int .i64 1, _, _] _ _ from solve_lit_no W 1 [[2]] 5 (by decide) (by unfold Wf; omega) (.inr (by decide)))
  have C4 := Lib.hid (fun W => show Calls Tryz.prog 10 #[.int .i64 1, .slice none 0 0, .int .i64 (-1)] W _ from solve_no (f := []) (fcap := 0) 1 (-1) (by unfold Wf; omega) (form_none W) (by decide) (.inl (by decide)))
  have C5 := Lib.hid (fun W => show Calls Tryz.prog 14 #[.int .i64 25, .slice none 0 0, .int .i64 5] W _ from ccount_no (f := []) (fcap := 0) 25 5 (by unfold Wf; omega) (form_none W) (by decide) (.inr (.inl (by decide))))
  have C6 := Lib.hid (fun W => show Calls Tryz.prog 14 #[.int .i64 2, .slice none 0 0, .int .i64 (-1)] W _ from ccount_no (f := []) (fcap := 0) 2 (-1) (by unfold Wf; omega) (form_none W) (by decide) (.inl (by decide)))
  have C7 : Hid (∀ W, Calls Tryz.prog 14 #[.int .i64 24, .slice none 0 0, .int .i64 5] W fun e w' => e = .returned (.tuple #[.int .i64 5, .int .i64 0]) ∧ Below W.heap.size W w') := Lib.hid (fun W => (show Calls Tryz.prog 14 #[.int .i64 24, .slice none 0 0, .int .i64 5] W _ from ccount_any (n := 24) (f := []) (fcap := 0) 5 (form_none W) (by decide) (by decide) (by decide) (fun c hc => by cases hc) (by decide) (by decide)).mono fun e w' h => by
    obtain ⟨rfl, b⟩ := h
    have h5 : (5 : Int) ≤ ((2 ^ 24 : Nat) : Int) := by decide +kernel
    rw [many_nil, Int.min_eq_left h5]
    exact ⟨rfl, b⟩)
  have C8 : Hid (∀ W, Calls Tryz.prog 14 #[.int .i64 0, .slice none 0 0, .int .i64 5] W fun e w' => e = .returned (.tuple #[.int .i64 1, .int .i64 0]) ∧ Below W.heap.size W w') := Lib.hid (fun W => (show Calls Tryz.prog 14 #[.int .i64 0, .slice none 0 0, .int .i64 5] W _ from ccount_any (n := 0) (f := []) (fcap := 0) 5 (form_none W) (by decide) (by decide) (by decide) (fun c hc => by cases hc) (by decide) (by decide)).mono fun e w' h => by
    obtain ⟨rfl, b⟩ := h
    rw [many_nil]
    exact ⟨rfl, b⟩)
  obtain ⟨i0, hi, hz0, hz1, hz2⟩ := info_parts infoRow
  have HI := Lib.hid (show _ ∧ _ ∧ _ ∧ _ from ⟨hi, hz0, hz1, hz2⟩)
  clear hi hz0 hz1 hz2
  go_enter Tryz.func4, Tryz.ntmps4
  go_wp2_with fail
  refine (awake6_any _).mono ?_
  rintro e w1 ⟨rfl, b1⟩
  have B1 := Lib.hid b1
  clear b1
  go_wp2_with fail
  (refine (C1.out _).mono ?_)
  rintro e w2 ⟨b2, ⟨m, g, rfl, _, _, hm, _⟩ | ⟨rfl, h0⟩ | ⟨rfl, _, hne, _⟩⟩
  rotate_left
  · exact absurd (h0 [false, false, false] rfl) (by decide)
  · exact absurd rfl hne
  have B2 := Lib.hid (Below.on B1.out b2)
  clear b2 C1 hm
  go_wp2_with fail
  (refine (C2.out _).mono ?_)
  rintro e w3 ⟨b3, ⟨m3, g3, rfl, _, _, hm, he⟩ | ⟨rfl, _⟩ | ⟨rfl, _, _, hne⟩⟩
  · exfalso
    match m3, hm with
    | [], _ => exact absurd he (by decide)
  rotate_left
  · exact absurd (List.mem_singleton.2 rfl) hne
  have B3 := Lib.hid (Below.on B2.out b3)
  clear b3 C2
  go_wp2_with fail
  (refine (C3.out _).mono ?_)
  rintro e w4 ⟨rfl, b4⟩
  have B4 := Lib.hid (Below.on B3.out b4)
  clear b4 C3
  go_wp2_with fail
  (refine (C4.out _).mono ?_)
  rintro e w' ⟨rfl, rfl⟩
  go_wp2_with fail
  (refine (C5.out _).mono ?_)
  rintro e w' ⟨rfl, rfl⟩
  go_wp2_with fail
  (refine (C6.out _).mono ?_)
  rintro e w' ⟨rfl, rfl⟩
  go_wp2_with fail
  (refine (C7.out _).mono ?_)
  rintro e w5 ⟨rfl, b5⟩
  have B5 := Lib.hid (Below.on B4.out b5)
  clear b5 C4 C5 C6 C7
  go_wp2_with fail
  (refine (C8.out _).mono ?_)
  rintro e w6 ⟨rfl, b6⟩
  have B6 := Lib.hid (Below.on B5.out b6)
  clear b6 C8
  go_wp2_with fail
  go_loopw [21, 22] (fun cv iv wr => ∃ (i : Nat) (G : Option Addr) (gc : Nat) (news : List Value), i ≤ 4 ∧ iv = .int .i64 i ∧ cv = .slice G news.length gc ∧ Hid (LRel w6 wr 36 (.slice G news.length gc) news) ∧ Hid (RowsU w6 wr news (pg 3 i))) (fun _ iv _ => 4 - (intOf iv).toNat)
  case atStart => exact ⟨0, none, 0, [], Nat.zero_le _, rfl, rfl, LRel.nil w6 _, Lib.hid ⟨rfl, fun i c hc => by simp [pg] at hc⟩⟩
  case round =>
    obtain ⟨i, G, gc, news, hi, rfl, rfl, R, RW⟩ := hrel
    by_cases hlt : i < 4
    · have hiN : (i : Int) < 4 := by omega
      obtain ⟨q, hq⟩ : ∃ q, i * 3 = q := ⟨_, rfl⟩
      have eq1 : IntKind.i64.wrap (3 * (i : Int)) = (q : Int) := by rw [IntKind.wrap_i64]; omega
      obtain ⟨y1, hy1⟩ : ∃ y : Int, (q : Int) + 1 = y := ⟨_, rfl⟩
      obtain ⟨y2, hy2⟩ : ∃ y : Int, (q : Int) + 2 = y := ⟨_, rfl⟩
      obtain ⟨y3, hy3⟩ : ∃ y : Int, (q : Int) + 3 = y := ⟨_, rfl⟩
      have e1 : IntKind.i64.wrap ((q : Int) + 1) = y1 := by rw [IntKind.wrap_i64]; omega
      have e2 : IntKind.i64.wrap ((q : Int) + 2) = y2 := by rw [IntKind.wrap_i64]; omega
      have e3 : IntKind.i64.wrap ((q : Int) + 3) = y3 := by rw [IntKind.wrap_i64]; omega
      have HY : Hid (pgO 3 i 3 = [y1, y2, y3]) := Lib.hid (by
        show [((i * 3 + 0 + 1 : Nat) : Int), ((i * 3 + 1 + 1 : Nat) : Int), ((i * 3 + 2 + 1 : Nat) : Int)] = _
        rw [hq, ← hy1, ← hy2, ← hy3]; rfl)
      have HQ := Lib.hid hq
      have hnb : news.length ≤ 200 := by
        have h1 := RW.out.1
        have h2 := pg_small 3 i (by omega) (by omega)
        omega
      have HNB := Lib.hid hnb
      have HRI : Hid (wr.ownsRow w6.heap.size 36 1 (.slice G news.length gc) news.length news) := R.out.own
      have HSZ2 := Lib.hid R.out.below.size
      have hqb : q ≤ 9 := by omega
      clear hq hy1 hy2 hy3
      go_wp2_with (at_builtin; refine wpList_append_lies _ rfl _ _ _ rfl w6.heap.size 36 i0 _ 1 24 Tryz.underlying22 HI.out.1 HI.out.2.1 HI.out.2.2.1 HI.out.2.2.2 rfl (by omega) (.slice G news.length gc) news.length news rfl ((HRI.out.alloc _).alloc _) ⟨wr.heap.size + 1, 0, none⟩ 1 1 [.slice (some ⟨wr.heap.size, 0, none⟩) 3 3] rfl rfl (World.news_of_block (cs := #[.slice (some ⟨wr.heap.size, 0, none⟩) 3 3]) (t := 36) (fr := (0, 0)) (new_at (W := wr.alloc (.cells #[.int .i64 y1, .int .i64 y2, .int .i64 y3] 3)) (by simp) rfl)) (by simp [Value.oneCell']) (by omega) (by unfold maxLen; omega) (by omega) (by have := HSZ2.out; simp; omega) (wr.heap.size + 2) (by simp) ?_; intro g1 c1 wp hown1 hg1 hat1 hlt1; have HO1 := Lib.hid hown1; have HG1 := Lib.hid hg1; clear hown1 hg1 hat1 hlt1)
      have HNX := Lib.hid (rows_next (d := [y1, y2, y3]) R.out rfl RW.out (lrel_three wr y1 y2 y3) HG1.out HO1.out)
      rw [← HY.out] at HNX
      clear R RW HRI HO1 HG1 HSZ2
      go_loopw [21, 23] (fun cv kv wr => ∃ (k : Nat) (G : Option Addr) (gc : Nat) (news : List Value), k ≤ i ∧ kv = .int .i64 k ∧ cv = .slice G news.length gc ∧ Hid (LRel w6 wr 36 (.slice G news.length gc) news) ∧ Hid (RowsU w6 wr news ((pg 3 i ++ [pgO 3 i 3]) ++ pgRows 3 i k))) (fun _ kv _ => i - (intOf kv).toNat)
      case atStart => exact ⟨0, some ⟨g1, 0, none⟩, c1, news ++ [.slice (some ⟨wr.heap.size, 0, none⟩) 3 3], Nat.zero_le _, rfl, by simp, by rw [List.length_append]; exact Lib.hid HNX.out.1, Lib.hid (by rw [show pgRows 3 i 0 = [] from rfl, List.append_nil]; exact HNX.out.2)⟩
      case round =>
        obtain ⟨k, G, gc, news, hk, rfl, rfl, R, RW⟩ := hrel
        clear HNX
        by_cases hlt3 : k < i
        · have hki : (k : Int) < (i : Int) := by omega
          have R0 : Hid (LRel w6 wr 36 (.slice G news.length gc) news) := R
          have RW0 : Hid (RowsU w6 wr news (((pg 3 i ++ [pgO 3 i 3]) ++ pgRows 3 i k) ++ pgRow 3 i k 0)) := Lib.hid (by rw [show pgRow 3 i k 0 = [] from rfl, List.append_nil]; exact RW.out)
          obtain ⟨q2, hq2⟩ : ∃ q2, k * 3 = q2 := ⟨_, rfl⟩
          have eq2 : IntKind.i64.wrap (3 * (k : Int)) = (q2 : Int) := by rw [IntKind.wrap_i64]; omega
          have hq2b : q2 ≤ 9 := by omega
          have HQ2 := Lib.hid hq2
          clear hq2 R RW
          go_wp2_with fail
          go_loopw [21, 24] (fun cv tv wr => ∃ (t : Nat) (x : Int) (G : Option Addr) (gc : Nat) (news : List Value), t ≤ 3 ∧ x = (t : Int) + 1 ∧ tv = .int .i64 x ∧ cv = .slice G news.length gc ∧ Hid (LRel w6 wr 36 (.slice G news.length gc) news) ∧ Hid (RowsU w6 wr news (((pg 3 i ++ [pgO 3 i 3]) ++ pgRows 3 i k) ++ pgRow 3 i k t))) (fun _ tv _ => 4 - (intOf tv).toNat)
          case atStart => exact ⟨0, 1, G, gc, news, Nat.zero_le _, rfl, rfl, rfl, R0, RW0⟩
          case round =>
            obtain ⟨t, x, G, gc, news, ht, hx, rfl, rfl, R, RW⟩ := hrel
            clear R0 RW0
            by_cases hlt4 : t < 3
            · have hx3 : x ≤ 3 := by omega
              obtain ⟨y, hy⟩ : ∃ y : Int, (q : Int) + x = y := ⟨_, rfl⟩
              obtain ⟨z, hz⟩ : ∃ z : Int, -y = z := ⟨_, rfl⟩
              obtain ⟨y2, hy2⟩ : ∃ y2 : Int, (q2 : Int) + x = y2 := ⟨_, rfl⟩
              obtain ⟨z2, hz2⟩ : ∃ z2 : Int, -y2 = z2 := ⟨_, rfl⟩
              obtain ⟨x', hx'⟩ : ∃ x' : Int, x + 1 = x' := ⟨_, rfl⟩
              have e2 : IntKind.i64.wrap ((q : Int) + x) = y := by rw [IntKind.wrap_i64]; omega
              have e4 : IntKind.i64.wrap (-y) = z := by rw [IntKind.wrap_i64]; omega
              have e5 : IntKind.i64.wrap ((q2 : Int) + x) = y2 := by rw [IntKind.wrap_i64]; omega
              have e7 : IntKind.i64.wrap (-y2) = z2 := by rw [IntKind.wrap_i64]; omega
              have e8 : IntKind.i64.wrap (x + 1) = x' := by rw [IntKind.wrap_i64]; omega
              have HY : Hid (pgTwo 3 i k t = [z, z2]) := Lib.hid (by
                unfold pgTwo
                rw [HQ.out, HQ2.out, ← hz, ← hz2, ← hy, ← hy2, hx]
                rw [show ((q + t + 1 : Nat) : Int) = (q : Int) + ((t : Int) + 1) by omega, show ((q2 + t + 1 : Nat) : Int) = (q2 : Int) + ((t : Int) + 1) by omega])
              have HX := Lib.hid (And.intro hx hx')
              have HRI : Hid (wr.ownsRow w6.heap.size 36 1 (.slice G news.length gc) news.length news) := R.out.own
              have HSZ2 := Lib.hid R.out.below.size
              have hnb : news.length ≤ 200 := by
                have h1 := RW.out.1
                have h2 := pg_small 3 i (by omega) (by omega)
                rw [List.length_append, List.length_append, List.length_append, pgRows_len, pgRow_len, HQ2.out] at h1
                simp at h1; omega
              clear hy hz hy2 hz2 hx hx'
              go_wp2_with (at_builtin; refine wpList_append_lies _ rfl _ _ _ rfl w6.heap.size 36 i0 _ 1 24 Tryz.underlying22 HI.out.1 HI.out.2.1 HI.out.2.2.1 HI.out.2.2.2 rfl (by omega) (.slice G news.length gc) news.length news rfl ((HRI.out.alloc _).alloc _) ⟨wr.heap.size + 1, 0, none⟩ 1 1 [.slice (some ⟨wr.heap.size, 0, none⟩) 2 2] rfl rfl (World.news_of_block (cs := #[.slice (some ⟨wr.heap.size, 0, none⟩) 2 2]) (t := 36) (fr := (0, 0)) (new_at (W := wr.alloc (.cells #[.int .i64 z, .int .i64 z2] 3)) (by simp) rfl)) (by simp [Value.oneCell']) (by omega) (by unfold maxLen; omega) (by omega) (by have := HSZ2.out; simp; omega) (wr.heap.size + 2) (by simp) ?_; intro g1 c1 wp hown1 hg1 hat1 hlt1; have HO1 := Lib.hid hown1; have HG1 := Lib.hid hg1; clear hown1 hg1 hat1 hlt1)
              have HNX := Lib.hid (rows_next (d := [z, z2]) R.out rfl RW.out (lrel_two wr z z2) HG1.out HO1.out)
              go_roundw
              case rel => exact ⟨t + 1, x', some ⟨g1, 0, none⟩, c1, news ++ [.slice (some ⟨wr.heap.size, 0, none⟩) 2 2], by omega, by have := HX.out; omega, rfl, by simp, by rw [List.length_append]; exact Lib.hid HNX.out.1, Lib.hid (by rw [show pgRow 3 i k (t + 1) = pgRow 3 i k t ++ [pgTwo 3 i k t] from rfl, HY.out, ← List.append_assoc]; exact HNX.out.2)⟩
              case measure => have := HX.out; simp [intOf]; omega
            · obtain rfl : t = 3 := by omega
              have hx3 : ¬ x ≤ 3 := by omega
              have HX := Lib.hid hx
              clear hx
              go_wp2_with fail
              go_roundw
              case rel => exact ⟨k + 1, G, gc, news, by omega, by go_num, rfl, R, Lib.hid (by rw [show pgRows 3 i (k + 1) = pgRows 3 i k ++ pgRow 3 i k 3 from rfl, ← List.append_assoc]; exact RW.out)⟩
              case measure => simp [intOf]; omega
        · obtain rfl : i = k := by omega
          go_wp2_with fail
          go_roundw
          case rel => exact ⟨i + 1, G, gc, news, by omega, by go_num, rfl, R, RW⟩
          case measure => simp [intOf]; omega
    · obtain rfl : i = 4 := by omega
      have hpl : (pg 3 4).length = news.length := RW.out.1.symm
      have hnl : news.length = 22 := by rw [← hpl]; decide
      have HFG : Hid (FormAt wr G (pg 3 4)) := Lib.hid (own_form2 (n := news.length) (cap := gc) R.out.own (RW.out.ok (fun c hc => by have := pg_row hc; omega)) (pg_wf (by decide)))
      have HB2 := Lib.hid (Below.on B6.out R.out.below)
      have CS : Hid (Calls Tryz.prog 10 #[.int .i64 12, .slice G news.length gc, .int .i64 4096] wr (SvPost 12 (pg 3 4) 4096 wr)) := Lib.hid (by
        have := solve_any (n := 12) (f0 := 100) (fcap := gc) 4096 HFG.out (pg_may (m := 3) (n := 4) (by decide)) (by decide) (by decide) (by decide) (fun c hc => by have := pg_row hc; omega) (by decide) (by decide) (start_ok_any (by decide) (by decide))
        rw [hpl] at this; exact this)
      clear hpl R RW
      rw [hnl] at CS
      rw [hnl]
      go_wp2_with fail
      (with_reducible refine CS.out.mono ?_)
      rintro e w7 ⟨b7, ⟨m, g, rfl, _, _, hm, he⟩ | ⟨rfl, _⟩ | ⟨rfl, hg, _⟩⟩
      · exact absurd (pg_le (m := 3) (n := 4) (by decide) hm he) (by decide)
      · have HB7 := Lib.hid (Below.on HB2.out b7)
        clear b7 CS
        go_wp2_with fail
        go_ret
        exact ⟨rfl, HB7.out⟩
      · exact absurd (grant_max (n := 12) (b := 4096) (by decide)) hg

theorem own : ownKnob Tryz.prog.godebug = none := by kernel_rfl
theorem cellsInt : Tryz.prog.cellsOf 3 = 1 := by kernel_rfl
set_option maxRecDepth 100000 in
theorem lifted (os : Os) (started : os.Started) (H : Type) (enc : TypeId × Value → H) :
    ReturnsInHanded {} Tryz.checked os 4 .any (Rows.dpllKnownSpec.pre6 enc Tryz.prog Tryz.f4 Rows.dpllKnownRow.domain false) (Rows.dpllKnownSpec.post enc Tryz.prog Tryz.f4 false true false false) := by
  refine returnsInHanded_of_change (C := Tryz.checked) own started (by kernel_rfl) Tryz.func4
    (ChangeSpec.witness6 (enc := enc) (C := Tryz.checked) false ⟨#[], #[], []⟩ 8 (by kernel_rfl) (by kernel_rfl) (by kernel_rfl) (by kernel_rfl)) ?_
  intro W base args ds gs before hval0 hW hcnd _
  have hval : ∀ (j : Nat) t v, Tryz.f4.params[j]? = some t → args[j]? = some v → Value.okWide Tryz.prog W .any base t v := hval0
  have hW' := hW
  obtain ⟨p, q, hA0, hV, rfl, hfz, hnd⟩ := hW
  have hA : DataW.TrodAll enc Tryz.prog W 0 (fun _ => true) true Tryz.f4.params.toList args.toList ds p := hA0
  rw [Tryz.params4] at hA hval
  obtain ⟨rfl, rfl, rfl⟩ := trodAll_none hA
  obtain ⟨rfl, rfl⟩ := trodVars_none hV
  clear hA0 hval0
  simp only [List.append_nil] at hW'
  have hlt := hW'.lt
  refine (walk  W ).mono fun e W' ⟨he, hg⟩ => ?_
  subst he
  exact ⟨_, rfl, post_kept hW' hg (fun _ _ _ => (trodAll_cons_mk (shut_bool Tryz.underlying4 _) trodAll_mk0)) (fun sp hsp => rfl) (fun _ _ => rfl) (by first | rfl | simp)
    (ok_one (by kernel_rfl) rfl (okWide_bool_mk Tryz.underlying4 _))⟩

theorem over : Rows.dpllKnownRow.holds Tryz.pinned (OpenSpec.ofChange Rows.dpllKnownSpec) :=
  OpenClaim.holds_of_wide 4 Tryz.f4 rfl rfl rfl rfl rfl rfl rfl ⟨rfl, rfl, rfl, rfl, rfl⟩ rfl rfl rfl rfl rfl (by kernel_rfl) Tryz.func4 (by kernel_rfl)
    (of_decide_eq_true (by kernel_rfl)) (by unfold Func.isWrapper; first | (rw [if_pos (by decide +kernel)]; kernel_rfl) | (rw [if_neg (by decide +kernel)]; exact ⟨rfl, rfl⟩))
    (fun os started H enc _ => lifted os started H enc)

theorem proved : Rows.DpllKnownSaid :=
  over
#print axioms proved
end Go.Proofs.YtpmdnbdmocdngaaGreat.dpllKnown
