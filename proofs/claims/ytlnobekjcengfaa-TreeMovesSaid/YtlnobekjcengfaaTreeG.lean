/-
  The law TreeMoves' walk, over what the program's tree is to answer.
-/
import Derived.Test.YtlnobekjcengfaaTreeB
namespace Go.Proofs.Ytlnobekjcengfaa
open Go.ChangeShapes Go.WideShapes Go.ChangeAt Go.RowKit Go.Joins
set_option linter.unusedVariables false
set_option linter.unusedSimpArgs false

set_option maxRecDepth 100000 in
set_option maxHeartbeats 4000000 in
theorem moves_walk {T : TP} (C : TreeC T) (aw : AwT) {W : World} {A : Option Addr} {l : List (Nat × Nat)} {cap : Nat} (hl : PairIn W A l) (hc : l.length ≤ cap) (hm : cap ≤ 9223372036854775807) :
    Calls Try.prog 6 #[.slice A l.length cap] W fun e W' => e = .returned (.bool true) ∧ Gw W W' := by
  have hn : ∀ b w, (Op.unary .not (.bool b)).run Try.prog w = .ok (.bool (!b)) w := fun _ _ => rfl
  have hmk : ∀ w : World, (Instr.makeSlice 57 (.int .i64 8) (.int .i64 8)).run Try.prog w = .ok (.slice (some ⟨w.heap.size, 0, none⟩) 8 8) (w.alloc (.cells (madeCells #[.int .i64 0] 8) 3)) := fun w => run_make_row' (P := Try.prog) 57 3 (.int .i64 0) 8 Try.underlying57 (by kernel_rfl) rfl .i64 .i64 8 (by omega) (by omega) w
  have AW := aw W
  by_cases h100 : 100 < l.length
  · have h100' : (100 : Int) < l.length := by omega
    go_enter Try.func6, Try.ntmps6
    go_wp2_with (go_at_call 8; with_reducible refine AW.mono ?_; rintro e w1 ⟨rfl, G1⟩)
    go_ret
    exact ⟨rfl, G1⟩
  have h100' : decide ((100 : Int) < l.length) = false := decide_eq_false (by omega)
  obtain ⟨i0, hi1, hi2, hi3, hi4⟩ := info_entry
  have HI := Lib.hid (And.intro hi1 (And.intro hi2 (And.intro hi3 hi4)))
  clear hi1 hi2 hi3 hi4
  go_enter Try.func6, Try.ntmps6
  go_upto_region 7 with (go_at_call 8; with_reducible refine AW.mono ?_; rintro e w1 ⟨rfl, G1⟩)
  have E0 := Lib.hid (EI.new (G := G1) (.cells (madeCells #[.int .i64 0] 8) 3))
  go_wp2_with fail
  go_loopw [3, 5] (fun v i wr => ∃ k : Nat, k ≤ 5 ∧ i = .int .i64 k ∧ Hid (EI W wr w1.heap.size (.cells (madeCells #[.int .i64 0] 8) 3) v (es5 k) k)) (fun v i _ => 5 - (intOf i).toNat)
  case atStart => exact ⟨0, by omega, rfl, E0.out⟩
  case round =>
    obtain ⟨k, hk, rfl, HE⟩ := hrel
    by_cases hlt : k < 5
    · have cv := lt1_back k (by omega)
      have HE2 := Lib.hid (HE.out.on ((Gw.alloc wr (.cells #[.int .u8 (97 + (k : Int))] 5)).trans (Gw.alloc _ (.cells #[.string (bs (lt1 k)), .bool false, .int .i64 0] 44))))
      have HB2 : Hid (((wr.alloc (.cells #[.int .u8 (97 + (k : Int))] 5)).alloc (.cells #[.string (bs (lt1 k)), .bool false, .int .i64 0] 44)).heap[wr.heap.size + 1]? = some (.cells #[.string (bs (lt1 k)), .bool false, .int .i64 0] 44)) := by
        have := heap_alloc_new (wr.alloc (.cells #[.int .u8 (97 + (k : Int))] 5)) (.cells #[.string (bs (lt1 k)), .bool false, .int .i64 0] 44)
        rw [size_alloc] at this
        exact this
      have HLT := Lib.hid (lt_of_heap HE2.out.hg)
      go_wp2_with (at_builtin; refine wpList_append_lies _ rfl _ _ _ rfl (w1.heap.size + 1) 44 i0 _ 3 32 Try.underlying22 HI.out.1 HI.out.2.1 HI.out.2.2.1 HI.out.2.2.2 rfl (by omega) u3 k (eCs (es5 k)) rfl HE2.out.row ⟨wr.heap.size + 1, 0, none⟩ 1 1 (eC (lt1 k, false)) rfl rfl (World.news_of_block HB2.out) (by simp [eC, Value.oneCell']) (by omega) (by unfold maxLen; omega) (by omega) HLT.out _ rfl ?_; intro g1 c1 wp own1 gr1 at1 hlt1)
      have EN := Lib.hid (HE2.out.add own1 gr1)
      rw [← es5_snoc] at EN
      clear own1 gr1 at1 hlt1 HE2 HB2 HLT cv
      go_roundw
      case rel => exact ⟨k + 1, by omega, by go_num, EN.out⟩
      case measure => simp [intOf]; omega
    · have hk5 : k = 5 := by omega
      have EV := HE
      rw [hk5] at EV
      clear HE E0 hk5
      rw [iC8_new] at EV
      go_upto_region 12 with fail
      go_loopw [6] (fun i wx => ∃ q : Nat, q ≤ 8 ∧ i = .int .i64 q ∧ Hid (EI W wx w1.heap.size (.cells (iC8 (av q)) 3 (0, 0)) u3 (es5 5) 5)) (fun i _ => 8 - (intOf i).toNat)
      case atStart => exact ⟨0, by omega, rfl, EV.out⟩
      case round =>
        obtain ⟨q, hq, rfl, HE⟩ := hrel
        clear EV
        by_cases hq8 : q < 8
        · have hh : Has wr w1.heap.size 3 (iC8 (av q)) := HE.out.hg
          obtain ⟨b, hb⟩ : ∃ b, (av q)[q]? = some b := ⟨_, List.getElem?_eq_getElem (by rw [av_len]; exact hq8)⟩
          have c1 : wr.cell? ⟨w1.heap.size, q, none⟩ = some (.int .i64 b) := (hh.cell q).trans (iC8_at hb)
          have f1 := hh.free q
          have hh2 := hh.put q (.int .i64 (-1))
          rw [iC8_set] at hh2
          have c2 : (wr.setCell ⟨w1.heap.size, q, none⟩ (.int .i64 (-1))).cell? ⟨w1.heap.size, q, none⟩ = some (.int .i64 (-1)) := (hh2.cell q).trans (iC8_at (List.getElem?_set_self (by rw [av_len]; exact hq8)))
          have f2 := hh2.free q
          clear hb hh hh2
          by_cases h5 : q < 5
          · have E2 := (HE.out.put q (.int .i64 (-1))).put q (.int .i64 (q : Int))
            have ha := av_set hq8
            rw [if_pos h5] at ha
            rw [iC8_set, iC8_set, ha] at E2
            have E2 := Lib.hid E2
            clear ha
            go_wp2_with fail
            go_roundw
            case rel => exact ⟨q + 1, by omega, by go_num, E2.out⟩
            case measure => simp [intOf]; omega
          · have E2 := HE.out.put q (.int .i64 (-1))
            rw [iC8_set, av_set1 hq8 h5] at E2
            have E2 := Lib.hid E2
            go_wp2_with fail
            go_roundw
            case rel => exact ⟨q + 1, by omega, by go_num, E2.out⟩
            case measure => simp [intOf]; omega
        · have hq8' : q = 8 := by omega
          rw [hq8'] at HE
          have NW := HE.out.tree C (by decide +kernel) (by decide) new5
          clear hq8' HE
          go_upto_region 22 with (go_at_call 10; with_reducible refine NW.mono ?_; rintro e w2 ⟨a, rfl, M⟩)
          have M0 := Lib.hid M
          clear M
          go_loopw [9, 10] (fun m i wx => ∃ (k n : Nat) (s : St) (at_ : List Int), k ≤ l.length ∧ i = .int .i64 k ∧ m = .int .i64 n ∧ Hid (MovI s at_ n) ∧ Hid (Mg T W wx (.pointer (some a)) s w1.heap.size (.cells (iC8 at_) 3 (0, 0)))) (fun m i _ => l.length - (intOf i).toNat)
          case atStart => exact ⟨0, 5, s5, av 8, by omega, rfl, rfl, mov5, M0.out⟩
          case round =>
            clear M0
            obtain ⟨k, n, s, at_, hk, rfl, rfl, HV, HM⟩ := hrel
            by_cases hlt : k < l.length
            · obtain ⟨z, hz⟩ : ∃ z, l[k]? = some z := ⟨_, List.getElem?_eq_getElem hlt⟩
              obtain ⟨g, off, rfl, hg, hc0, hc1, hz0, hz1⟩ := (hl.on HM.out.gw) k z hz
              obtain ⟨x, hx⟩ : ∃ x : Nat, (z.1 : Int) % 8 = x := ⟨z.1 % 8, by omega⟩
              obtain ⟨y, hy⟩ : ∃ y : Nat, (z.2 : Int) % 8 = y := ⟨z.2 % 8, by omega⟩
              have hx8 : x < 8 := by omega
              have hy8 : y < 8 := by omega
              clear hz
              go_upto_region 24 with fail
              go_quiet (fail)
              rw [hx, hy]
              have HM3 := Lib.hid (HM.out.on C ((Gw.refl wr).drewM nq))
              clear HM hc0 hc1 hx hy
              generalize wr.drewN nq = w3 at *
              have HM4 := Lib.hid (HM3.out.on C ((Gw.alloc w3 (.cells #[.int .u8 (97 + (x : Int))] 5)).trans (Gw.alloc _ (.cells #[.int .u8 (97 + (y : Int))] 5))))
              have cx := lt1_back x (by omega) w3
              have cy := lt1_back y (by omega) (w3.alloc (.cells #[.int .u8 (97 + (x : Int))] 5))
              rw [size_alloc] at cy
              obtain ⟨va, hva⟩ : ∃ va, at_[x]? = some va := ⟨_, List.getElem?_eq_getElem (by rw [HV.out.al]; exact hx8)⟩
              obtain ⟨vb, hvb⟩ : ∃ vb, at_[y]? = some vb := ⟨_, List.getElem?_eq_getElem (by rw [HV.out.al]; exact hy8)⟩
              have HA := Lib.hid hva
              have HB := Lib.hid hvb
              have hcell : ∀ w' v' s', Mg T W w' v' s' w1.heap.size (.cells (iC8 at_) 3 (0, 0)) → w'.cell? ⟨w1.heap.size, x, none⟩ = some (.int .i64 va) ∧ w'.frozen? ⟨w1.heap.size, x, none⟩ = false ∧ w'.cell? ⟨w1.heap.size, y, none⟩ = some (.int .i64 vb) ∧ w'.frozen? ⟨w1.heap.size, y, none⟩ = false := fun w' v' s' m =>
                have hh : Has w' w1.heap.size 3 (iC8 at_) := m.hg
                ⟨(hh.cell x).trans (iC8_at hva), hh.free x, (hh.cell y).trans (iC8_at hvb), hh.free y⟩
              have MK : ∀ (r1 r2 : Int) (s' : St), moveT s (lt1 x) (lt1 y) = ((r1, r2), s') → Calls Try.prog 18 #[.pointer (some a), .string (bs (lt1 x)), .string (bs (lt1 y))] ((w3.alloc (.cells #[.int .u8 (97 + (x : Int))] 5)).alloc (.cells #[.int .u8 (97 + (y : Int))] 5)) fun e w' => e = .returned (.tuple #[.int .i64 r1, .int .u16 r2]) ∧ Mg T W w' (.pointer (some a)) s' w1.heap.size (.cells (iC8 at_) 3 (0, 0)) := fun r1 r2 s' hr => by
                have := g_move C HM4.out HV.out.ok (by have := HV.out.len; have := HV.out.n8; omega) (bs (lt1 x)) (bs (lt1 y)) (by rw [bs_size]; show 1 ≤ _; decide) (by rw [bs_size]; show 1 ≤ _; decide)
                rw [bs_data, bs_data, hr] at this
                exact this
              clear hva hvb
              have n9 : (n : Int) ≤ 8 := by have := HV.out.n8; omega
              by_cases h0 : va < 0
              · have MK1 := MK _ _ _ (HV.out.no hx8 HA.out h0 (lt1 y))
                clear MK
                go_upto_region 31 with (go_at_call 18; with_reducible refine MK1.mono ?_; rintro e w4 ⟨rfl, M4⟩; obtain ⟨c1, f1, c2, f2⟩ := hcell _ _ _ M4; have LN := g_len C M4 HV.out.ok (by have := HV.out.len; have := HV.out.n8; omega))
                rw [HV.out.len] at LN
                go_wp2_with (go_at_call 13; with_reducible refine LN.mono ?_; rintro e w5 ⟨rfl, M5⟩)
                go_roundw
                case rel => exact ⟨k + 1, n, s, at_, by omega, by go_num, rfl, HV.out, M5⟩
                case measure => simp [intOf]; omega
              have d0 : decide (va < 0) = false := decide_eq_false h0
              by_cases hxy : x = y
              · subst hxy
                have MK1 := MK _ _ _ (HV.out.self hx8 HA.out (by omega))
                clear MK
                go_upto_region 31 with (go_at_call 18; with_reducible refine MK1.mono ?_; rintro e w4 ⟨rfl, M4⟩; obtain ⟨c1, f1, c2, f2⟩ := hcell _ _ _ M4; have LN := g_len C M4 HV.out.ok (by have := HV.out.len; have := HV.out.n8; omega))
                rw [HV.out.len] at LN
                go_wp2_with (go_at_call 13; with_reducible refine LN.mono ?_; rintro e w5 ⟨rfl, M5⟩)
                go_roundw
                case rel => exact ⟨k + 1, n, s, at_, by omega, by go_num, rfl, HV.out, M5⟩
                case measure => simp [intOf]; omega
              have HXY := Lib.hid hxy
              have dxy : ((x : Int) == (y : Int)) = false := by simp; omega
              by_cases h1 : vb < 0
              · have hb1 := (HV.out.nil hy8 HB.out h1).2
                obtain ⟨hmv, h2⟩ := HV.out.free hx8 hy8 hxy HA.out (by omega) HB.out h1
                have MK1 := MK _ _ _ hmv
                have HV2 := Lib.hid h2
                have d1 : decide (0 ≤ vb) = false := decide_eq_false (by omega)
                clear MK hmv h2 h1 hxy
                subst hb1
                go_upto_region 31 with (go_at_call 18; with_reducible refine MK1.mono ?_; rintro e w4 ⟨rfl, M4⟩; obtain ⟨c1, f1, c2, f2⟩ := hcell _ _ _ M4)
                have M4b := (M4.put C y (.int .i64 va)).put C x (.int .i64 (-1))
                rw [iC8_set, iC8_set] at M4b
                have LN := g_len C M4b HV2.out.ok (by have := HV2.out.len; have := HV2.out.n8; omega)
                rw [HV2.out.len] at LN
                have hh : Has w4 w1.heap.size 3 (iC8 at_) := M4.hg
                have f3 := (hh.put y (.int .i64 va)).free x
                have c3 : (w4.setCell ⟨w1.heap.size, y, none⟩ (.int .i64 va)).cell? ⟨w1.heap.size, x, none⟩ = some (.int .i64 va) := by
                  have := (hh.put y (.int .i64 va)).cell x
                  rw [this, Array.getElem?_setIfInBounds_ne (fun e => HXY.out e.symm), ← hh.cell x]; exact c1
                clear hh M4
                go_wp2_with (go_at_call 13; with_reducible refine LN.mono ?_; rintro e w5 ⟨rfl, M5⟩)
                go_roundw
                case rel => exact ⟨k + 1, n, _, _, by omega, by go_num, rfl, HV2.out, M5⟩
                case measure => simp [intOf]; omega
              · obtain ⟨hmv, h2, hn1⟩ := HV.out.upon hx8 hy8 hxy HA.out (by omega) HB.out (by omega)
                have MK1 := MK _ _ _ hmv
                have HV2 := Lib.hid h2
                have d1 : decide (0 ≤ vb) = true := decide_eq_true (by omega)
                clear MK hmv h2 h1 hxy
                go_upto_region 31 with (go_at_call 18; with_reducible refine MK1.mono ?_; rintro e w4 ⟨rfl, M4⟩; obtain ⟨c1, f1, c2, f2⟩ := hcell _ _ _ M4)
                have M4b := (M4.put C y (.int .i64 va)).put C x (.int .i64 (-1))
                rw [iC8_set, iC8_set] at M4b
                have LN := g_len C M4b HV2.out.ok (by have := HV2.out.len; have := HV2.out.n8; omega)
                rw [HV2.out.len] at LN
                have hh : Has w4 w1.heap.size 3 (iC8 at_) := M4.hg
                have f3 := (hh.put y (.int .i64 va)).free x
                have c3 : (w4.setCell ⟨w1.heap.size, y, none⟩ (.int .i64 va)).cell? ⟨w1.heap.size, x, none⟩ = some (.int .i64 va) := by
                  have := (hh.put y (.int .i64 va)).cell x
                  rw [this, Array.getElem?_setIfInBounds_ne (fun e => HXY.out e.symm), ← hh.cell x]; exact c1
                clear hh M4
                go_wp2_with (go_at_call 13; with_reducible refine LN.mono ?_; rintro e w5 ⟨rfl, M5⟩)
                go_roundw
                case rel => exact ⟨k + 1, n - 1, ⟨_, _⟩, _, by omega, by go_num, by congr 1; omega, HV2.out, M5⟩
                case measure => simp [intOf]; omega
            · have hlt' : decide ((k : Int) < (l.length : Int)) = false := decide_eq_false (by omega)
              go_upto_region 40 with fail
              go_loopw [15] (fun i wx => ∃ q : Nat, q ≤ 8 ∧ i = .int .i64 q ∧ Hid (Mg T W wx (.pointer (some a)) s w1.heap.size (.cells (iC8 at_) 3 (0, 0)))) (fun i _ => 8 - (intOf i).toNat)
              case atStart => exact ⟨0, by omega, rfl, HM.out⟩
              case round =>
                clear HM
                obtain ⟨q, hq, rfl, HM⟩ := hrel
                by_cases hq8 : q < 8
                · have cv := lt1_back q (by omega) wr
                  obtain ⟨va, hva⟩ : ∃ va, at_[q]? = some va := ⟨_, List.getElem?_eq_getElem (by rw [HV.out.al]; exact hq8)⟩
                  have HA := Lib.hid hva
                  have hcell : ∀ w' v' s', Mg T W w' v' s' w1.heap.size (.cells (iC8 at_) 3 (0, 0)) → w'.cell? ⟨w1.heap.size, q, none⟩ = some (.int .i64 va) := fun w' v' s' m =>
                    have hh : Has w' w1.heap.size 3 (iC8 at_) := m.hg
                    (hh.cell q).trans (iC8_at hva)
                  have FK := g_find C (HM.out.on C (Gw.alloc wr (.cells #[.int .u8 (97 + (q : Int))] 5))) HV.out.ok (by have := HV.out.len; have := HV.out.n8; omega) (bs (lt1 q)) (by rw [bs_size]; show 1 ≤ _; decide)
                  rw [bs_data] at FK
                  clear hva HM
                  by_cases h0 : va < 0
                  · obtain ⟨hk0, hv1⟩ := HV.out.nil hq8 HA.out h0
                    rw [find_none (lt1_name (by omega)).1 (lt1_abv (by omega) _) hk0] at FK
                    simp only [fV] at FK
                    clear hk0 h0 HA
                    subst hv1
                    go_upto_region 43 with (go_at_call 20; with_reducible refine FK.mono ?_; rintro e w4 ⟨rfl, M4⟩; have c1 := hcell _ _ _ M4)
                    go_wp2_with fail
                    go_roundw
                    case rel => exact ⟨q + 1, by omega, by go_num, M4⟩
                    case measure => simp [intOf]; omega
                  · obtain ⟨ii, hi, hd, hin⟩ := HV.out.yes hq8 HA.out (by omega)
                    rw [find_some (lt1_name (by omega)).1 (lt1_abv (by omega) _) hi, hd, hin] at FK
                    simp only [fV] at FK
                    have d0 : decide (0 ≤ va) = true := decide_eq_true (by omega)
                    clear hi hd hin h0 HA
                    go_upto_region 43 with (go_at_call 20; with_reducible refine FK.mono ?_; rintro e w4 ⟨rfl, M4⟩; have c1 := hcell _ _ _ M4)
                    go_wp2_with fail
                    go_roundw
                    case rel => exact ⟨q + 1, by omega, by go_num, M4⟩
                    case measure => simp [intOf]; omega
                · have hq' : decide ((q : Int) < 8) = false := decide_eq_false (by omega)
                  go_wp2_with fail
                  go_ret
                  exact ⟨rfl, HM.out.gw⟩
end Go.Proofs.Ytlnobekjcengfaa
