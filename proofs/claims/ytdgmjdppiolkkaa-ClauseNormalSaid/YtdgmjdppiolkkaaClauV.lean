/-
  Normal of the document's own answer: its walk.
-/
import Derived.Test.YtdgmjdppiolkkaaClauR
import Derived.Deep.CutBlock
import Derived.Deep.CutRange
import Derived.Deep.LoopGhost
namespace Go.Proofs.Ytdgmjdppiolkkaa
open Go.ChangeShapes Go.WideShapes Go.ChangeAt Go.RowKit
set_option linter.unusedVariables false
attribute [local go_sem ↓] Go.wp_at_zero Go.wp_at_succ

theorem row_yes {c : List Int} {k : Nat} {x : Int} (h : c[k]? = some x) (hl : lit x = true) : row (c.take (k + 1)) = ins x (row (c.take k)) := by
  have hk := List.getElem?_eq_some_iff.1 h
  obtain ⟨hk, hk'⟩ := hk
  rw [List.take_succ_eq_append_getElem hk, row_snoc, hk', if_pos hl]
theorem row_no {c : List Int} {k : Nat} {x : Int} (h : c[k]? = some x) (hl : lit x = false) : row (c.take (k + 1)) = row (c.take k) := by
  have hk := List.getElem?_eq_some_iff.1 h
  obtain ⟨hk, hk'⟩ := hk
  rw [List.take_succ_eq_append_getElem hk, row_snoc, hk', hl]; simp
theorem row_le (c : List Int) (k : Nat) : (row (c.take k)).length ≤ k := Nat.le_trans (row_len _) (by simp; omega)
def Less (o : List Int) (l : Int) (k : Nat) : Prop := ∀ (j : Nat) (y : Int), j < k → o[j]? = some y → ltL y l = true
theorem Less.more {o : List Int} {l : Int} {k : Nat} {y : Int} (h : Less o l k) (hy : o[k]? = some y) (hl : ltL y l = true) : Less o l (k + 1) := by
  intro j z hj hz
  by_cases e : j = k
  · subst e; rw [hy] at hz; injection hz with hz; subst hz; exact hl
  · exact h j z (by omega) hz
theorem own_kind {w wr : World} {B : Option Addr} {n cap : Nat} {l : List Value} (h : LRel w wr 3 (.slice B n cap) l) : n = l.length ∧ ((B = none ∧ n = 0 ∧ cap = 0) ∨ ∃ g, B = some ⟨g, 0, none⟩ ∧ g < wr.heap.size ∧ n ≤ cap ∧ cap ≤ 9223372036854775807) := by
  rcases h.own.2 with ⟨h1, h2⟩ | ⟨g, c2, cur, h1, _, hg, h3, h4, _⟩
  · injection h1 with h1 h5 h6
    subst h1; subst h6; subst h5
    exact ⟨h2.symm, .inl ⟨rfl, rfl, rfl⟩⟩
  · injection h1 with h1 h5 h6
    subst h1; subst h6; subst h5
    unfold maxLen at h4
    exact ⟨rfl, .inr ⟨g, rfl, lt_of_heap hg, h3, by omega⟩⟩
/-- Where the look for the place of a literal has ended. -/
def AtEnd (o : List Int) (l : Int) (j : Nat) : Prop := Less o l j ∧ ∀ y, o[j]? = some y → ltL y l = false
set_option maxHeartbeats 3200000 in
set_option maxRecDepth 100000 in
theorem rnormal_any (A : Option Addr) (c : List Int) (cap : Nat) (w : World) (hc : SeqAt (Value.int .i64) w A c) (hw : ∀ l ∈ c, Wf l) (hn : c.length ≤ 10000) :
    Calls Try.prog 18 #[.slice A c.length cap] w (NormPost c w) := by
  have HC := Lib.hid hc
  have HW := Lib.hid hw
  clear hc hw
  obtain ⟨i0, hi, hz0, hz1, hz2⟩ := info_parts infoInt
  have HI := Lib.hid (show _ ∧ _ ∧ _ ∧ _ from ⟨hi, hz0, hz1, hz2⟩)
  clear hi hz0 hz1 hz2
  have hlw := least_wrap
  go_enter Try.func18, Try.ntmps18
  go_wp2_with fail
  rename_i KT aT
  have HAT := Lib.hid aT
  clear aT
  go_loopg [4, 5] c.length (fun gg v i wr => ∃ (k : Nat) (B : Option Addr) (bcap : Nat), k ≤ c.length ∧ c.length - k ≤ gg ∧ i = .int .i64 k ∧ v = .slice B (row (c.take k)).length bcap ∧ Hid (LRel w wr 3 (.slice B (row (c.take k)).length bcap) (ints (row (c.take k)))))
  case atStart => exact ⟨0, none, 0, by omega, by omega, rfl, rfl, LRel.nil w _⟩
  case round =>
    obtain ⟨k, B, bcap, hk, hgg, rfl, rfl, R⟩ := hrel
    by_cases hlt : k < c.length
    · obtain ⟨l, hz⟩ : ∃ l, c[k]? = some l := ⟨_, List.getElem?_eq_getElem hlt⟩
      obtain ⟨a, rfl, hcell⟩ := (HC.out.keep R.out.below).get k l hz
      have hwl := HW.out l (List.mem_of_getElem? hz)
      have hle := row_le c k
      cases hl : lit l with
      | false =>
        have HE := Lib.hid (row_no hz hl)
        have hl0 := (lit_no hwl).1 hl
        clear hz hl hwl
        rcases hl0 with rfl | rfl
        all_goals
          go_wp2_with fail
          go_roundg (c.length - (k + 1))
          case measure => omega
          case rel => exact ⟨k + 1, B, bcap, by omega, by omega, by go_num, by rw [HE.out], by rw [HE.out]; exact R.out⟩
      | true =>
        have HE := Lib.hid (row_yes hz hl)
        have hl0 := (lit_iff hwl).1 hl
        have l1 : -9223372036854775807 ≤ l := by have := hwl.1; omega
        have l2 : l ≤ 9223372036854775807 := hwl.2
        have l3 : (l == 0) = false := by simpa using hl0.1
        have l4 : (l == -l) = false := by simp; omega
        have HX := Lib.hid (fun y (hy : y ∈ row (c.take k)) (W : World) => less_any y l W (HW.out y (List.mem_of_mem_take (row_mem hy))) hwl (row_lit hy) hl)
        clear hz hl hl0 hwl
        generalize row (c.take k) = o at *
        have HQ := Lib.hid (seq_own (xs := o) (by have := R.out.own; rw [List.length_map] at this; exact this))
        generalize wr = wo at *
        go_upto_block 2 with fail
        go_cut [7] from 9 to 63 (fun s7 wx => wo = wx ∧ ∃ j : Nat, j ≤ o.length ∧ s7 = .int .i64 j ∧ Hid (AtEnd o l j))
        case first =>
          go_wp2_with fail
          go_loop [7] (fun i => ∃ j : Nat, j ≤ o.length ∧ i = .int .i64 j ∧ Hid (Less o l j)) (fun i => o.length - (intOf i).toNat)
          case atStart => exact ⟨0, by omega, rfl, fun j y hj => by omega⟩
          case round =>
            obtain ⟨j, hj, rfl, H⟩ := hrel
            by_cases hjl : j < o.length
            · obtain ⟨y, hy⟩ : ∃ y, o[j]? = some y := ⟨_, List.getElem?_eq_getElem hjl⟩
              obtain ⟨aB, rfl, hcy⟩ := HQ.out.get j y hy
              have cl := HX.out y (List.mem_of_getElem? hy) wo
              cases hb : ltL y l with
              | true =>
                have HM := Lib.hid (H.out.more hy hb)
                rw [hb] at cl
                clear hy hb
                go_wp2_with (go_at_call 29; ((with_reducible refine cl.mono ?_); rintro e w' ⟨rfl, rfl⟩))
                go_round
                case rel => exact ⟨j + 1, by omega, by go_num, HM.out⟩
                case measure => simp [intOf]; omega
              | false =>
                have HM := Lib.hid (show AtEnd o l j from ⟨H.out, fun z hz => by rw [hy] at hz; injection hz with hz; subst hz; exact hb⟩)
                rw [hb] at cl
                clear hy hb
                go_wp2_with (go_at_call 29; ((with_reducible refine cl.mono ?_); rintro e w' ⟨rfl, rfl⟩))
                go_meet
                exact ⟨rfl, j, hj, rfl, HM.out⟩
            · have HM := Lib.hid (show AtEnd o l j from ⟨H.out, fun z hz => by rw [List.getElem?_eq_none (by omega)] at hz; cases hz⟩)
              go_wp2_with fail
              go_meet
              exact ⟨rfl, j, hj, rfl, HM.out⟩
        case rest =>
          obtain ⟨rfl, j, hj, rfl, H⟩ := hcut
          have HA := Lib.hid (ins_at H.out.1 H.out.2 hj)
          by_cases hjl : j < o.length
          · obtain ⟨y, hy⟩ : ∃ y, o[j]? = some y := ⟨_, List.getElem?_eq_getElem hjl⟩
            obtain ⟨aB, rfl, hcy⟩ := HQ.out.get j y hy
            by_cases e : y = l
            · have HG := Lib.hid (HA.out.trans (if_pos (by rw [hy, e])))
              subst e
              clear hy
              go_wp2_with fail
              go_roundg (c.length - (k + 1))
              case measure => omega
              case rel => exact ⟨k + 1, some aB, bcap, by omega, by omega, by go_num, by rw [HE.out, HG.out], by rw [HE.out, HG.out]; exact R.out⟩
            · have HG := Lib.hid (HA.out.trans (if_neg (by rw [hy]; simpa using e)))
              have e1 : (y == l) = false := by simpa using e
              clear hy e
              obtain ⟨hnn, ⟨h1, _⟩ | ⟨g, h1, hg, hbc, hbm⟩⟩ := own_kind R.out <;> clear hnn
              · cases h1
              · injection h1 with h1
                subst h1
                rw [add_at] at hcy
                have HD := Lib.hid (seq_part HQ.out j)
                have HT := Lib.hid (seq_head HQ.out j)
                have q1 : (j : Int) ≤ (o.length : Int) := by omega
                have q2 : (j : Int) ≤ (bcap : Int) := by omega
                have q3 : (0 : Int) ≤ (j : Int) := by omega
                have q4 : (o.length : Int) ≤ (bcap : Int) := by omega
                have q6 : ¬ bcap = j := by omega
                have q7 : o.length ≤ 10000 := by omega
                have HLJ := Lib.hid (show (o.take j).length = j by rw [List.length_take]; omega)
                have HDJ := Lib.hid (show (o.drop j).length = o.length - j from List.length_drop)
                have HV := Lib.hid (show (ints (o.take j) ++ ints [l] ++ ints (o.drop j)).length = (row (c.take (k + 1))).length from by rw [HE.out, HG.out]; simp)
                go_upto_region 11 with fail
                rename_i J0 K1 a2 a1 K0 a0
                have HA0 := Lib.hid a0
                have HA1 := Lib.hid a1
                have HA2 := Lib.hid a2
                clear a0 a1 a2 HX hcell hlw l1 l2 l3 l4
                go_region_law (first | (refine step_app2 (wo.drew) (by with_reducible exact Eq.refl _) (by rfl) (.const (.slice none 0 0)) (.tmp 55) _ (by rfl) 3 i0 (.int .i64 0) 8 Try.underlying27 HI.out.1 HI.out.2.1 HI.out.2.2.1 HI.out.2.2.2 rfl wo (.slice none 0 0) [] (by rfl) (nil_rel wo _ _ (Below.drew (Below.refl _ _))) ⟨g, 0, none⟩ j bcap (ints (o.take j)) (by go_simp) (by rw [List.length_map]; exact HLJ.out) (news_of_seq (HT.out.keep (Below.drew (Below.refl _ _)))) cells_one (by unfold maxLen; simp; omega) (by simp; omega) ?_; intro v1 w1 R1 G1; have R1A := Lib.hid R1; have R1AG := Lib.hid G1; clear R1 G1) | (refine step_app2 ((wo.alloc (.cells #[.int .i64 l] 3)).drew) (by with_reducible exact Eq.refl _) (by rfl) (.const (.slice none 0 0)) (.tmp 55) _ (by rfl) 3 i0 (.int .i64 0) 8 Try.underlying27 HI.out.1 HI.out.2.1 HI.out.2.2.1 HI.out.2.2.2 rfl wo (.slice none 0 0) [] (by rfl) (nil_rel wo _ _ (Below.drew (Below.alloc (Below.refl _ _) (Nat.le_refl _) _))) ⟨g, 0, none⟩ j bcap (ints (o.take j)) (by go_simp) (by rw [List.length_map]; exact HLJ.out) (news_of_seq (HT.out.keep (Below.drew (Below.alloc (Below.refl _ _) (Nat.le_refl _) _)))) cells_one (by unfold maxLen; simp; omega) (by simp; omega) ?_; intro v1 w1 R1 G1; have R1B := Lib.hid R1; have R1BG := Lib.hid G1; clear R1 G1) | (refine step_app2 (w1.alloc (.cells #[.int .i64 l] 3)) (by with_reducible exact Eq.refl _) (by rfl) (.tmp 56) (.tmp 58) _ (by rfl) 3 i0 (.int .i64 0) 8 Try.underlying27 HI.out.1 HI.out.2.1 HI.out.2.2.1 HI.out.2.2.2 rfl wo v1 (ints (o.take j)) (by go_simp) (R1A.out.alloc _) ⟨w1.heap.size, 0, none⟩ 1 1 (ints [l]) (by rfl) (by simp) (one_at w1 3 (.int .i64 l)) cells_one (by rw [List.length_map, HLJ.out]; unfold maxLen; omega) (by rw [List.length_map, HLJ.out]; omega) ?_; intro v2 w2 R2 G2; have R2H := Lib.hid R2; clear R2 G2) | (refine step_app2 (w1) (by with_reducible exact Eq.refl _) (by rfl) (.tmp 56) (.tmp 58) _ (by rfl) 3 i0 (.int .i64 0) 8 Try.underlying27 HI.out.1 HI.out.2.1 HI.out.2.2.1 HI.out.2.2.2 rfl wo v1 (ints (o.take j)) (by go_simp) (R1B.out) ⟨wo.heap.size, 0, none⟩ 1 1 (ints [l]) (by rfl) (by simp) (one_kept (W := (wo.alloc (.cells #[.int .i64 l] 3)).drew) (t := 3) (x := .int .i64 l) rfl R1BG.out) cells_one (by rw [List.length_map, HLJ.out]; unfold maxLen; omega) (by rw [List.length_map, HLJ.out]; omega) ?_; intro v2 w2 R2 G2; have R2H := Lib.hid R2; clear R2 G2) | (refine step_app2 (w2) (by with_reducible exact Eq.refl _) (by rfl) (.tmp 59) (.tmp 62) _ (by rfl) 3 i0 (.int .i64 0) 8 Try.underlying27 HI.out.1 HI.out.2.1 HI.out.2.2.1 HI.out.2.2.2 rfl wo v2 (ints (o.take j) ++ ints [l]) (by rfl) R2H.out ⟨g, j, none⟩ (o.length - j) (bcap - j) (ints (o.drop j)) (by rfl) (by rw [List.length_map]; exact HDJ.out) (news_of_seq (HD.out.keep R2H.out.below)) cells_one (by rw [List.length_append, List.length_map, HLJ.out]; unfold maxLen; simp; omega) (by rw [List.length_append, List.length_map, HLJ.out]; simp; omega) ?_; intro v3 w3 R3 G3; obtain ⟨B3, c3, rfl⟩ := own_form R3 HV.out; have R3H := Lib.hid R3; clear R3 G3) | fail)
                all_goals
                  have a0 := HA0.out
                  have a1 := HA1.out
                  have a2 := HA2.out
                  clear HA0 HA1 HA2 q1 q2 q3 q4 q6
                  have HF := Lib.hid (show LRel w w3 3 (.slice B3 (row (c.take (k + 1))).length c3) (ints (row (c.take (k + 1)))) from by
                    have e3 : ints (row (c.take (k + 1))) = ints (o.take j) ++ ints [l] ++ ints (o.drop j) := by rw [HE.out, HG.out]; simp
                    rw [e3]
                    exact LRel.to R.out.below R3H.out)
                  go_wp2_with fail
                  go_roundg (c.length - (k + 1))
                  case measure => omega
                  case rel => exact ⟨k + 1, B3, c3, by omega, by omega, by go_num, rfl, HF.out⟩
          · have HG := Lib.hid (HA.out.trans (if_neg (by rw [List.getElem?_eq_none (by omega)]; simp)))
            obtain ⟨hnn, ⟨h1, h2, h3⟩ | ⟨g, h1, hg, hbc, hbm⟩⟩ := own_kind R.out <;> clear hnn
            · subst h1
              subst h3
              have ho : o = [] := List.eq_nil_of_length_eq_zero h2
              subst ho
              obtain rfl : j = 0 := by simpa using hj
              have HV := Lib.hid (show ([] ++ ints [l]).length = (row (c.take (k + 1))).length from by rw [HE.out, HG.out]; simp)
              go_upto_region 11 with fail
              rename_i J0 K1 a2 a1 K0 a0
              have HA0 := Lib.hid a0
              have HA1 := Lib.hid a1
              have HA2 := Lib.hid a2
              clear a0 a1 a2 HX hcell hlw l1 l2 l3 l4
              go_region_law (first | (refine step_app_nil2 (wo.drew) (by with_reducible exact Eq.refl _) (by rfl) (.const (.slice none 0 0)) (.tmp 55) _ (by rfl) 3 i0 Try.underlying27 HI.out.1 wo (.slice none 0 0) [] (by rfl) (nil_rel wo _ _ (Below.drew (Below.refl _ _))) (by go_simp) ?_; have tokA : True := trivial) | (refine step_app_nil2 ((wo.alloc (.cells #[.int .i64 l] 3)).drew) (by with_reducible exact Eq.refl _) (by rfl) (.const (.slice none 0 0)) (.tmp 55) _ (by rfl) 3 i0 Try.underlying27 HI.out.1 wo (.slice none 0 0) [] (by rfl) (nil_rel wo _ _ (Below.drew (Below.alloc (Below.refl _ _) (Nat.le_refl _) _))) (by go_simp) ?_; have tokB : True := trivial) | (refine step_app2 ((wo.alloc (.cells #[.int .i64 l] 3)).drew) (by with_reducible exact Eq.refl _) (by rfl) (.tmp 56) (.tmp 58) _ (by rfl) 3 i0 (.int .i64 0) 8 Try.underlying27 HI.out.1 HI.out.2.1 HI.out.2.2.1 HI.out.2.2.2 rfl wo (.slice none 0 0) [] (by rfl) (nil_rel wo _ _ (Below.drew (Below.alloc (Below.refl _ _) (Nat.le_refl _) _))) ⟨wo.heap.size, 0, none⟩ 1 1 (ints [l]) (by rfl) (by simp) (one_at wo 3 (.int .i64 l)) cells_one (by unfold maxLen; simp) (by simp) ?_; intro v2 w2 R2 G2; have R2H := Lib.hid R2; clear R2 G2) | (refine step_app_nil2 w2 (by with_reducible exact Eq.refl _) (by rfl) (.tmp 59) (.tmp 62) _ (by rfl) 3 i0 Try.underlying27 HI.out.1 wo v2 ([] ++ ints [l]) (by rfl) R2H.out (by go_simp) ?_; obtain ⟨B3, c3, rfl⟩ := own_form R2H.out HV.out; have R3H := Lib.hid R2H.out) | fail)
              all_goals
                have a0 := HA0.out
                have a1 := HA1.out
                have a2 := HA2.out
                clear HA0 HA1 HA2
                have HF := Lib.hid (show LRel w w2 3 (.slice B3 (row (c.take (k + 1))).length c3) (ints (row (c.take (k + 1)))) from by
                  have e3 : ints (row (c.take (k + 1))) = [] ++ ints [l] := by rw [HE.out, HG.out]; simp
                  rw [e3]
                  exact LRel.to R.out.below R3H.out)
                go_wp2_with fail
                go_roundg (c.length - (k + 1))
                case measure => omega
                case rel => exact ⟨k + 1, B3, c3, by omega, by omega, by go_num, rfl, HF.out⟩
            · subst h1
              by_cases hcap : j < bcap
              · have hcap2 := hcap
                clear hcap
                have HD := Lib.hid (seq_part HQ.out j)
                have HT := Lib.hid (seq_head HQ.out j)
                have q1 : (j : Int) ≤ (o.length : Int) := by omega
                have q2 : (j : Int) ≤ (bcap : Int) := by omega
                have q3 : (0 : Int) ≤ (j : Int) := by omega
                have q4 : (o.length : Int) ≤ (bcap : Int) := by omega
                have q6 : ¬ bcap = j := by omega
                have q7 : o.length ≤ 10000 := by omega
                have HLJ := Lib.hid (show (o.take j).length = j by rw [List.length_take]; omega)
                have HDJ := Lib.hid (show (o.drop j).length = o.length - j from List.length_drop)
                have HV := Lib.hid (show (ints (o.take j) ++ ints [l] ++ ints (o.drop j)).length = (row (c.take (k + 1))).length from by rw [HE.out, HG.out]; simp)
                go_upto_region 11 with fail
                rename_i J0 K1 a2 a1 K0 a0
                have HA0 := Lib.hid a0
                have HA1 := Lib.hid a1
                have HA2 := Lib.hid a2
                clear a0 a1 a2 HX hcell hlw l1 l2 l3 l4
                go_region_law (first | (refine step_app2 (wo.drew) (by with_reducible exact Eq.refl _) (by rfl) (.const (.slice none 0 0)) (.tmp 55) _ (by rfl) 3 i0 (.int .i64 0) 8 Try.underlying27 HI.out.1 HI.out.2.1 HI.out.2.2.1 HI.out.2.2.2 rfl wo (.slice none 0 0) [] (by rfl) (nil_rel wo _ _ (Below.drew (Below.refl _ _))) ⟨g, 0, none⟩ j bcap (ints (o.take j)) (by go_simp) (by rw [List.length_map]; exact HLJ.out) (news_of_seq (HT.out.keep (Below.drew (Below.refl _ _)))) cells_one (by unfold maxLen; simp; omega) (by simp; omega) ?_; intro v1 w1 R1 G1; have R1A := Lib.hid R1; have R1AG := Lib.hid G1; clear R1 G1) | (refine step_app2 ((wo.alloc (.cells #[.int .i64 l] 3)).drew) (by with_reducible exact Eq.refl _) (by rfl) (.const (.slice none 0 0)) (.tmp 55) _ (by rfl) 3 i0 (.int .i64 0) 8 Try.underlying27 HI.out.1 HI.out.2.1 HI.out.2.2.1 HI.out.2.2.2 rfl wo (.slice none 0 0) [] (by rfl) (nil_rel wo _ _ (Below.drew (Below.alloc (Below.refl _ _) (Nat.le_refl _) _))) ⟨g, 0, none⟩ j bcap (ints (o.take j)) (by go_simp) (by rw [List.length_map]; exact HLJ.out) (news_of_seq (HT.out.keep (Below.drew (Below.alloc (Below.refl _ _) (Nat.le_refl _) _)))) cells_one (by unfold maxLen; simp; omega) (by simp; omega) ?_; intro v1 w1 R1 G1; have R1B := Lib.hid R1; have R1BG := Lib.hid G1; clear R1 G1) | (refine step_app2 (w1.alloc (.cells #[.int .i64 l] 3)) (by with_reducible exact Eq.refl _) (by rfl) (.tmp 56) (.tmp 58) _ (by rfl) 3 i0 (.int .i64 0) 8 Try.underlying27 HI.out.1 HI.out.2.1 HI.out.2.2.1 HI.out.2.2.2 rfl wo v1 (ints (o.take j)) (by go_simp) (R1A.out.alloc _) ⟨w1.heap.size, 0, none⟩ 1 1 (ints [l]) (by rfl) (by simp) (one_at w1 3 (.int .i64 l)) cells_one (by rw [List.length_map, HLJ.out]; unfold maxLen; omega) (by rw [List.length_map, HLJ.out]; omega) ?_; intro v2 w2 R2 G2; have R2H := Lib.hid R2; clear R2 G2) | (refine step_app2 (w1) (by with_reducible exact Eq.refl _) (by rfl) (.tmp 56) (.tmp 58) _ (by rfl) 3 i0 (.int .i64 0) 8 Try.underlying27 HI.out.1 HI.out.2.1 HI.out.2.2.1 HI.out.2.2.2 rfl wo v1 (ints (o.take j)) (by go_simp) (R1B.out) ⟨wo.heap.size, 0, none⟩ 1 1 (ints [l]) (by rfl) (by simp) (one_kept (W := (wo.alloc (.cells #[.int .i64 l] 3)).drew) (t := 3) (x := .int .i64 l) rfl R1BG.out) cells_one (by rw [List.length_map, HLJ.out]; unfold maxLen; omega) (by rw [List.length_map, HLJ.out]; omega) ?_; intro v2 w2 R2 G2; have R2H := Lib.hid R2; clear R2 G2) | (refine step_app2 (w2) (by with_reducible exact Eq.refl _) (by rfl) (.tmp 59) (.tmp 62) _ (by rfl) 3 i0 (.int .i64 0) 8 Try.underlying27 HI.out.1 HI.out.2.1 HI.out.2.2.1 HI.out.2.2.2 rfl wo v2 (ints (o.take j) ++ ints [l]) (by rfl) R2H.out ⟨g, j, none⟩ (o.length - j) (bcap - j) (ints (o.drop j)) (by rfl) (by rw [List.length_map]; exact HDJ.out) (news_of_seq (HD.out.keep R2H.out.below)) cells_one (by rw [List.length_append, List.length_map, HLJ.out]; unfold maxLen; simp; omega) (by rw [List.length_append, List.length_map, HLJ.out]; simp; omega) ?_; intro v3 w3 R3 G3; obtain ⟨B3, c3, rfl⟩ := own_form R3 HV.out; have R3H := Lib.hid R3; clear R3 G3) | fail)
                all_goals
                  have a0 := HA0.out
                  have a1 := HA1.out
                  have a2 := HA2.out
                  clear HA0 HA1 HA2 q1 q2 q3 q4 q6
                  have HF := Lib.hid (show LRel w w3 3 (.slice B3 (row (c.take (k + 1))).length c3) (ints (row (c.take (k + 1)))) from by
                    have e3 : ints (row (c.take (k + 1))) = ints (o.take j) ++ ints [l] ++ ints (o.drop j) := by rw [HE.out, HG.out]; simp
                    rw [e3]
                    exact LRel.to R.out.below R3H.out)
                  go_wp2_with fail
                  go_roundg (c.length - (k + 1))
                  case measure => omega
                  case rel => exact ⟨k + 1, B3, c3, by omega, by omega, by go_num, rfl, HF.out⟩
              · have hcap2 := hcap
                obtain rfl : j = o.length := by omega
                obtain rfl : bcap = o.length := by omega
                clear hcap hcap2
                have hdn : o.drop o.length = [] := List.drop_eq_nil_of_le (by omega)
                have HDN := Lib.hid hdn
                clear hdn
                have HD := Lib.hid (show SeqAt (Value.int .i64) wo (some ⟨g, 0, none⟩) (o.drop o.length) from by rw [HDN.out]; exact HQ.out.nils)
                have HT := Lib.hid (seq_head HQ.out o.length)
                have q7 : o.length ≤ 10000 := by omega
                have HLJ := Lib.hid (show (o.take o.length).length = o.length by rw [List.length_take]; omega)
                have HDJ := Lib.hid (show (o.drop o.length).length = o.length - o.length from List.length_drop)
                have HV := Lib.hid (show (ints (o.take o.length) ++ ints [l] ++ ints (o.drop o.length)).length = (row (c.take (k + 1))).length from by rw [HE.out, HG.out]; simp)
                go_upto_region 11 with fail
                rename_i J0 K1 a2 a1 K0 a0
                have HA0 := Lib.hid a0
                have HA1 := Lib.hid a1
                have HA2 := Lib.hid a2
                clear a0 a1 a2 HX hcell hlw l1 l2 l3 l4
                go_region_law (first | (refine step_app2 (wo.drew) (by with_reducible exact Eq.refl _) (by rfl) (.const (.slice none 0 0)) (.tmp 55) _ (by rfl) 3 i0 (.int .i64 0) 8 Try.underlying27 HI.out.1 HI.out.2.1 HI.out.2.2.1 HI.out.2.2.2 rfl wo (.slice none 0 0) [] (by rfl) (nil_rel wo _ _ (Below.drew (Below.refl _ _))) ⟨g, 0, none⟩ o.length o.length (ints (o.take o.length)) (by go_simp) (by rw [List.length_map]; exact HLJ.out) (news_of_seq (HT.out.keep (Below.drew (Below.refl _ _)))) cells_one (by unfold maxLen; simp; omega) (by simp; omega) ?_; intro v1 w1 R1 G1; have R1A := Lib.hid R1; have R1AG := Lib.hid G1; clear R1 G1) | (refine step_app2 ((wo.alloc (.cells #[.int .i64 l] 3)).drew) (by with_reducible exact Eq.refl _) (by rfl) (.const (.slice none 0 0)) (.tmp 55) _ (by rfl) 3 i0 (.int .i64 0) 8 Try.underlying27 HI.out.1 HI.out.2.1 HI.out.2.2.1 HI.out.2.2.2 rfl wo (.slice none 0 0) [] (by rfl) (nil_rel wo _ _ (Below.drew (Below.alloc (Below.refl _ _) (Nat.le_refl _) _))) ⟨g, 0, none⟩ o.length o.length (ints (o.take o.length)) (by go_simp) (by rw [List.length_map]; exact HLJ.out) (news_of_seq (HT.out.keep (Below.drew (Below.alloc (Below.refl _ _) (Nat.le_refl _) _)))) cells_one (by unfold maxLen; simp; omega) (by simp; omega) ?_; intro v1 w1 R1 G1; have R1B := Lib.hid R1; have R1BG := Lib.hid G1; clear R1 G1) | (refine step_app2 (w1.alloc (.cells #[.int .i64 l] 3)) (by with_reducible exact Eq.refl _) (by rfl) (.tmp 56) (.tmp 58) _ (by rfl) 3 i0 (.int .i64 0) 8 Try.underlying27 HI.out.1 HI.out.2.1 HI.out.2.2.1 HI.out.2.2.2 rfl wo v1 (ints (o.take o.length)) (by go_simp) (R1A.out.alloc _) ⟨w1.heap.size, 0, none⟩ 1 1 (ints [l]) (by rfl) (by simp) (one_at w1 3 (.int .i64 l)) cells_one (by rw [List.length_map, HLJ.out]; unfold maxLen; omega) (by rw [List.length_map, HLJ.out]; omega) ?_; intro v2 w2 R2 G2; have R2H := Lib.hid R2; clear R2 G2) | (refine step_app2 (w1) (by with_reducible exact Eq.refl _) (by rfl) (.tmp 56) (.tmp 58) _ (by rfl) 3 i0 (.int .i64 0) 8 Try.underlying27 HI.out.1 HI.out.2.1 HI.out.2.2.1 HI.out.2.2.2 rfl wo v1 (ints (o.take o.length)) (by go_simp) (R1B.out) ⟨wo.heap.size, 0, none⟩ 1 1 (ints [l]) (by rfl) (by simp) (one_kept (W := (wo.alloc (.cells #[.int .i64 l] 3)).drew) (t := 3) (x := .int .i64 l) rfl R1BG.out) cells_one (by rw [List.length_map, HLJ.out]; unfold maxLen; omega) (by rw [List.length_map, HLJ.out]; omega) ?_; intro v2 w2 R2 G2; have R2H := Lib.hid R2; clear R2 G2) | (refine step_app2 (w2) (by with_reducible exact Eq.refl _) (by rfl) (.tmp 59) (.tmp 62) _ (by rfl) 3 i0 (.int .i64 0) 8 Try.underlying27 HI.out.1 HI.out.2.1 HI.out.2.2.1 HI.out.2.2.2 rfl wo v2 (ints (o.take o.length) ++ ints [l]) (by rfl) R2H.out ⟨g, 0, none⟩ 0 0 (ints (o.drop o.length)) (by rfl) (by rw [HDN.out]; rfl) (news_of_seq (HD.out.keep R2H.out.below)) cells_one (by rw [List.length_append, List.length_map, HLJ.out]; unfold maxLen; simp; omega) (by rw [List.length_append, List.length_map, HLJ.out]; simp; omega) ?_; intro v3 w3 R3 G3; obtain ⟨B3, c3, rfl⟩ := own_form R3 HV.out; have R3H := Lib.hid R3; clear R3 G3) | fail)
                all_goals
                  have a0 := HA0.out
                  have a1 := HA1.out
                  have a2 := HA2.out
                  clear HA0 HA1 HA2
                  have HF := Lib.hid (show LRel w w3 3 (.slice B3 (row (c.take (k + 1))).length c3) (ints (row (c.take (k + 1)))) from by
                    have e3 : ints (row (c.take (k + 1))) = ints (o.take o.length) ++ ints [l] ++ ints (o.drop o.length) := by rw [HE.out, HG.out]; simp
                    rw [e3]
                    exact LRel.to R.out.below R3H.out)
                  go_wp2_with fail
                  go_roundg (c.length - (k + 1))
                  case measure => omega
                  case rel => exact ⟨k + 1, B3, c3, by omega, by omega, by go_num, rfl, HF.out⟩
    · obtain rfl : k = c.length := by omega
      have HE := Lib.hid (show c.take c.length = c from List.take_length)
      have aT := HAT.out
      have HR := Lib.hid (show LRel w wr 3 (.slice B (row c).length bcap) (ints (row c)) from by have := R.out; rw [HE.out] at this; exact this)
      have HQ := Lib.hid (seq_own (xs := row c) (by have := HR.out.own; rw [List.length_map] at this; exact this))
      have HLE : (row c).length ≤ 10000 := Nat.le_trans (row_len c) hn
      have HWR := Lib.hid (fun x (hx : x ∈ row c) => HW.out x (row_mem hx))
      have HLR := Lib.hid (fun x (hx : x ∈ row c) => row_lit hx)
      have HT := Lib.hid (fun h => nrm_yes (c := c) h)
      have HTN := Lib.hid (fun h => nrm_no (c := c) h)
      rw [HE.out]
      clear R HAT
      generalize row c = s at *
      go_wp2_with fail
      go_loopw [8] (fun i wx => ∃ j q : Nat, (j = 0 ∨ j < s.length) ∧ i = .int .i64 ((j : Int) + 1) ∧ Hid (wx = wr.drewN q) ∧ Hid (Apart s (j + 1))) (fun i _ => s.length + 1 - (intOf i).toNat)
      case atStart => exact ⟨0, 0, .inl rfl, rfl, rfl, fun j x y hj => by omega⟩
      case round =>
        obtain ⟨j, q, hj, rfl, hwr, H⟩ := hrel
        by_cases hlt2 : j + 1 < s.length
        · obtain ⟨aS, x, y, ha, hx, hy, hcx, hcy⟩ := look_step HQ.out hlt2 q hwr.out
          obtain ⟨g, rfl⟩ : ∃ g, aS = ⟨g, 0, none⟩ := by
            obtain ⟨_, ⟨h1, _⟩ | ⟨g, h1, _⟩⟩ := own_kind HR.out
            · rw [ha] at h1; cases h1
            · rw [ha] at h1; injection h1 with h1; exact ⟨g, h1⟩
          subst ha
          rw [add_at] at hcx hcy
          have hwx := HWR.out x (List.mem_of_getElem? hx)
          have hlx := (lit_iff hwx).1 (HLR.out x (List.mem_of_getElem? hx))
          have x1 : -9223372036854775807 ≤ x := by have := hwx.1; omega
          have x2 : x ≤ 9223372036854775807 := hwx.2
          have w1 : IntKind.i64.wrap (-x) = -x := wrap_in (by omega) (by omega)
          have w2 : IntKind.i64.wrap ((j : Int) + 1 - 1) = (j : Int) := by rw [show (j : Int) + 1 - 1 = j by omega]; exact wrap_in (by omega) (by omega)
          have w4 : IntKind.i64.wrap (j : Int) = (j : Int) := wrap_in (by omega) (by omega)
          have i0 : (0 : Int) ≤ (j : Int) + 1 := by omega
          have i1 : (j : Int) + 1 < (s.length : Int) := by omega
          have i2 : (j : Int) < (s.length : Int) := by omega
          have i3 : ((j : Int) + 1).toNat = j + 1 := by omega
          by_cases e : y = -x
          · have HG := Lib.hid (HT.out (taut_of (k := j + 1) (by omega) hx hy e))
            have e1 : (y == -x) = true := by simp; omega
            clear hx hy e hj hlx hwx hlt hk hgg
            go_wp2_with fail
            go_quiet (fail)
            go_wp2_with fail
            go_ret2
            exact ⟨none, 0, by rw [HG.out]; (first | done | rfl), by rw [HG.out]; exact SeqAt.nil _ _, by rw [hwr.out, World.drewN_drewN]; exact Below.draws HR.out.below _⟩
          · have HG := Lib.hid (H.out.more (by omega) hx hy e)
            have e1 : (y == -x) = false := by simp; omega
            clear hx hy e hj hlx hwx hlt hk hgg
            go_wp2_with fail
            go_quiet (fail)
            go_wp2_with fail
            go_roundw
            case rel => exact ⟨j + 1, q + nq, .inr hlt2, by go_num, (show _ = _ from by rw [hwr.out, World.drewN_drewN]), HG.out⟩
            case measure => simp [intOf]; omega
        · have HG := Lib.hid (HTN.out (H.out.taut (by omega)))
          go_wp2_with fail
          go_ret2
          exact ⟨_, _, by rw [HG.out]; (first | done | rfl), by rw [HG.out, hwr.out]; exact HQ.out.keep (Below.draws (Below.refl _ _) q), by rw [hwr.out]; exact Below.draws HR.out.below q⟩
end Go.Proofs.Ytdgmjdppiolkkaa
