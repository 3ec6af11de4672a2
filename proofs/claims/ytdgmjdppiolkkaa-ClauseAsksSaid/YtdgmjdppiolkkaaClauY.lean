/-
  Part of the law ClauseAsks: a formula that may be, of up to 300 variables.
-/
import Derived.Test.YtdgmjdppiolkkaaClauX
import Derived.ProofKit
namespace Go.Proofs.Ytdgmjdppiolkkaa.clauseAsks
open Go.ChangeShapes Go.WideShapes Go.ChangeAt Go.RowKit
set_option linter.unusedVariables false

set_option maxHeartbeats 6400000 in
set_option maxRecDepth 100000 in
theorem walk_small (N : Nat) (A : Option Addr) (f : List (List Int)) (cap : Nat) (B0 : Option Addr) (m : List Bool) (mcap : Nat) (w : World) (hN : N ≤ 65536) (hN3 : (N : Int) ≤ 300) (HF : Hid (FormAt w A f)) (hl : f.length ≤ 9223372036854775807) (HM : Hid (SeqAt Value.bool w B0 m)) (hml : m.length ≤ 9223372036854775807) (hm' : (m.length : Int) ≤ 1000) (ht : Hid (mayM N f = true)) :
    Calls Try.prog 3 #[.int .i64 N, .slice A f.length cap, .slice B0 m.length mcap] w fun e w' => e = .returned (.bool true) ∧ Below w.heap.size w w' := by
  have hWN : Wf (N : Int) := by unfold Wf; omega
  have HWN := Lib.hid hWN
  clear hWN hN
  obtain ⟨i0, hi, hz0, hz1, hz2⟩ := info_parts infoInt
  have HI := Lib.hid (show _ ∧ _ ∧ _ ∧ _ from ⟨hi, hz0, hz1, hz2⟩)
  clear hi hz0 hz1 hz2
  go_enter Try.func3, Try.ntmps3
  go_wp2_with fail
  refine (awake_any _).mono ?_
  rintro e w1 ⟨rfl, hb1⟩
  have HB1 := Lib.hid hb1
  have HF1 := Lib.hid (HF.out.keep hb1)
  have HM1 := Lib.hid (HM.out.keep hb1)
  clear hb1
  go_wp2_with fail
  refine (small_any A f cap 3000 w1 HF1.out hl).mono ?_
  rintro e w2 ⟨b, rfl, rfl⟩
  cases b
  · go_wp2_with fail
    go_ret
    exact ⟨rfl, HB1.out⟩
  go_wp2_with fail
  refine (rmayB HWN.out HF1.out hl ht.out).mono ?_
  rintro e w2 ⟨rfl, rfl⟩
  go_wp2_with fail
  go_loopw [8, 9] (fun v i wr => ∃ (j : Nat) (B : Option Addr) (bcap : Nat), j ≤ N ∧ i = .int .i64 ((j : Int) + 1) ∧ v = .slice B (pureTo f j).length bcap ∧ Hid (LRel w1 wr 3 (.slice B (pureTo f j).length bcap) (ints (pureTo f j)))) (fun _ i _ => N + 1 - (intOf i).toNat)
  case atStart => exact ⟨0, none, 0, by omega, rfl, rfl, LRel.nil w1 _⟩
  case round =>
    obtain ⟨j, B, bcap, hj, rfl, rfl, R⟩ := hrel
    by_cases hlt : j < N
    · have hlt' : (j : Int) + 1 ≤ (N : Int) := by omega
      have hjl := pureTo_len f j
      have HT := Lib.hid (pureTo_succ f j)
      have HV := Lib.hid (show pure1 f ((j : Int) + 1) = (if inF f ((j : Int) + 1) && !inF f (-((j : Int) + 1)) then [(j : Int) + 1] else if inF f (-((j : Int) + 1)) && !inF f ((j : Int) + 1) then [-((j : Int) + 1)] else []) from rfl)
      generalize wr = wo at *
      go_wp2_with fail
      go_loopw [10, 11, 12] (fun p q i wx => ∃ k d : Nat, k ≤ f.length ∧ i = .int .i64 k ∧ p = .bool (inF (f.take k) ((j : Int) + 1)) ∧ q = .bool (inF (f.take k) (-((j : Int) + 1))) ∧ Hid (wx = wo.drewN d)) (fun _ _ i _ => f.length - (intOf i).toNat)
      case atStart => exact ⟨0, 0, by omega, rfl, rfl, rfl, rfl⟩
      case round =>
        obtain ⟨k, d, hk, rfl, rfl, rfl, hwx⟩ := hrel
        by_cases hkl : k < f.length
        · obtain ⟨c, hz⟩ : ∃ c, f[k]? = some c := ⟨_, List.getElem?_eq_getElem hkl⟩
          have HE1 := Lib.hid (inF_take hz ((j : Int) + 1))
          have HE2 := Lib.hid (inF_take hz (-((j : Int) + 1)))
          obtain ⟨a, C, ccap, rfl, hcell, hcs, hcl⟩ := HF1.out.get k c hz
          have hab := lt_of_cell hcell
          have HCS := Lib.hid hcs
          have HCE := Lib.hid (fun (W : World) (h : Below w1.heap.size w1 W) => (h.cell hab).trans hcell)
          clear hz hcs hcell hab
          generalize inF (f.take k) ((j : Int) + 1) = P at *
          generalize inF (f.take k) (-((j : Int) + 1)) = Q at *
          generalize wr = wv at *
          have hcx0 := HCE.out wv (by rw [hwx.out]; exact Below.draws R.out.below d)
          go_wp2_with fail
          go_loopw [10, 11, 13] (fun p q i wy => ∃ t g : Nat, t ≤ c.length ∧ i = .int .i64 t ∧ p = .bool (P || (c.take t).any fun y => y == (j : Int) + 1) ∧ q = .bool (Q || (c.take t).any fun y => y == -((j : Int) + 1)) ∧ Hid (wy = wv.drewN g)) (fun _ _ i _ => c.length - (intOf i).toNat)
          case atStart => exact ⟨0, 0, by omega, rfl, by simp, by simp, rfl⟩
          case round =>
            obtain ⟨t, g, htl, rfl, rfl, rfl, hwy⟩ := hrel
            have hbw : Below w1.heap.size w1 wr := by rw [hwy.out, hwx.out]; exact Below.draws (Below.draws R.out.below d) g
            have hcx := HCE.out wr hbw
            by_cases htc : t < c.length
            · obtain ⟨l, hy⟩ : ∃ l, c[t]? = some l := ⟨_, List.getElem?_eq_getElem htc⟩
              obtain ⟨aC, rfl, hcy⟩ := (HCS.out.keep hbw).get t l hy
              have HA1 := Lib.hid (any_one hy ((j : Int) + 1))
              have HA2 := Lib.hid (any_one hy (-((j : Int) + 1)))
              have i1 : (k : Int) < (f.length : Int) := by omega
              have i2 : (t : Int) < (c.length : Int) := by omega
              clear hy hbw hcx0
              generalize ((c.take t).any fun y => y == (j : Int) + 1) = P1 at *
              generalize ((c.take t).any fun y => y == -((j : Int) + 1)) = Q1 at *
              have HPP := Lib.hid (show (P || (P1 || l == (j : Int) + 1)) = ((P || P1) || l == (j : Int) + 1) by cases P <;> cases P1 <;> rfl)
              have HQQ := Lib.hid (show (Q || (Q1 || l == -((j : Int) + 1))) = ((Q || Q1) || l == -((j : Int) + 1)) by cases Q <;> cases Q1 <;> rfl)
              generalize (P || P1) = P2 at *
              generalize (Q || Q1) = Q2 at *
              cases P2 <;> cases Q2
              all_goals
                go_wp2_with fail
                have sN : IntKind.i64.wrap (-((j : Int) + 1)) = -((j : Int) + 1) := wrap_in (by omega) (by omega)
                go_quiet (fail)
                clear sN
                go_wp2_with fail
                go_roundw
                case rel => exact ⟨t + 1, g + nq, by omega, by go_num, by rw [HA1.out, HPP.out]; simp, by rw [HA2.out, HQQ.out]; simp, (show _ = _ from by rw [hwy.out, World.drewN_drewN])⟩
                case measure => simp [intOf]; omega
            · obtain rfl : t = c.length := by omega
              rw [List.take_length]
              have e1 : (P || c.any fun y => y == (j : Int) + 1) = inF (f.take (k + 1)) ((j : Int) + 1) := HE1.out.symm
              have e2 : (Q || c.any fun y => y == -((j : Int) + 1)) = inF (f.take (k + 1)) (-((j : Int) + 1)) := HE2.out.symm
              rw [e1, e2]
              clear e1 e2
              go_wp2_with fail
              go_roundw
              case rel => exact ⟨k + 1, d + g, by omega, by go_num, rfl, rfl, (show _ = _ from by rw [hwy.out, hwx.out, World.drewN_drewN])⟩
              case measure => simp [intOf]; omega
        · obtain rfl : k = f.length := by omega
          rw [List.take_length]
          have HR := Lib.hid (show LRel w1 wr 3 (.slice B (pureTo f j).length bcap) (ints (pureTo f j)) from by rw [hwx.out]; exact R.out.draws d)
          have HO : Hid (wr.ownsRow w1.heap.size 3 1 (.slice B (pureTo f j).length bcap) (pureTo f j).length (ints (pureTo f j))) := by have := HR.out.own; rw [List.length_map] at this; exact this
          have HSZ : Hid (w1.heap.size ≤ wr.heap.size) := HR.out.below.size
          cases hp : inF f ((j : Int) + 1) <;> cases hq : inF f (-((j : Int) + 1))
          all_goals
            rw [hp, hq] at HV
            have HV2 := Lib.hid (HT.out.trans (congrArg (pureTo f j ++ ·) HV.out))
            clear hp hq HV HT
            generalize pureTo f j = l at *
          · have HE := Lib.hid (show pureTo f (j + 1) = l from by simpa using HV2.out)
            go_wp2_with fail
            go_roundw
            case rel => exact ⟨j + 1, B, bcap, by omega, by go_num, by rw [HE.out], by rw [HE.out]; exact HR⟩
            case measure => simp [intOf]; omega
          · have HE := Lib.hid (show pureTo f (j + 1) = l ++ [-((j : Int) + 1)] from by simpa using HV2.out)
            go_wp2_with (at_builtin; refine wpList_append_lies _ rfl _ _ _ rfl w1.heap.size 3 i0 _ 1 8 Try.underlying27 HI.out.1 HI.out.2.1 HI.out.2.2.1 HI.out.2.2.2 rfl (by omega) (.slice B l.length bcap) l.length (ints l) rfl (HO.out.alloc _) ⟨wr.heap.size, 0, none⟩ 1 1 [.int .i64 (-((j : Int) + 1))] rfl rfl (World.news_of_block (cs := #[.int .i64 (-((j : Int) + 1))]) (t := 3) (fr := (0, 0)) (new_heap wr _)) (by simp [Value.oneCell']) (by omega) (by unfold maxLen; omega) (by omega) (by have := HSZ.out; simp; omega) (wr.heap.size + 1) (by simp) ?_; intro g1 c1 wp hown1 hg1 hat1 hlt1; have HO1 := Lib.hid hown1; have HG1 := Lib.hid hg1; clear hown1 hg1 hat1 hlt1)
            go_roundw
            case rel => exact ⟨j + 1, some ⟨g1, 0, none⟩, c1, by omega, by go_num, by rw [HE.out, List.length_append]; rfl, by
              rw [HE.out]
              have hx := HR.out.more (x := .int .i64 (-((j : Int) + 1))) (g := g1) (cap := c1) (by rw [List.length_map]; exact HO1.out) HG1.out
              simp only [List.length_map, List.length_append, List.map_append] at hx ⊢
              exact hx⟩
            case measure => simp [intOf]; omega
          · have HE := Lib.hid (show pureTo f (j + 1) = l ++ [(j : Int) + 1] from by simpa using HV2.out)
            go_wp2_with (at_builtin; refine wpList_append_lies _ rfl _ _ _ rfl w1.heap.size 3 i0 _ 1 8 Try.underlying27 HI.out.1 HI.out.2.1 HI.out.2.2.1 HI.out.2.2.2 rfl (by omega) (.slice B l.length bcap) l.length (ints l) rfl (HO.out.alloc _) ⟨wr.heap.size, 0, none⟩ 1 1 [.int .i64 ((j : Int) + 1)] rfl rfl (World.news_of_block (cs := #[.int .i64 ((j : Int) + 1)]) (t := 3) (fr := (0, 0)) (new_heap wr _)) (by simp [Value.oneCell']) (by omega) (by unfold maxLen; omega) (by omega) (by have := HSZ.out; simp; omega) (wr.heap.size + 1) (by simp) ?_; intro g1 c1 wp hown1 hg1 hat1 hlt1; have HO1 := Lib.hid hown1; have HG1 := Lib.hid hg1; clear hown1 hg1 hat1 hlt1)
            go_roundw
            case rel => exact ⟨j + 1, some ⟨g1, 0, none⟩, c1, by omega, by go_num, by rw [HE.out, List.length_append]; rfl, by
              rw [HE.out]
              have hx := HR.out.more (x := .int .i64 ((j : Int) + 1)) (g := g1) (cap := c1) (by rw [List.length_map]; exact HO1.out) HG1.out
              simp only [List.length_map, List.length_append, List.map_append] at hx ⊢
              exact hx⟩
            case measure => simp [intOf]; omega
          · have HE := Lib.hid (show pureTo f (j + 1) = l from by simpa using HV2.out)
            go_wp2_with fail
            go_roundw
            case rel => exact ⟨j + 1, B, bcap, by omega, by go_num, by rw [HE.out], by rw [HE.out]; exact HR⟩
            case measure => simp [intOf]; omega
    · obtain rfl : N = j := by omega
      have HBR := Lib.hid (Below.on HB1.out R.out.below)
      have HFR := Lib.hid (HF.out.keep HBR.out)
      have HMR := Lib.hid (HM.out.keep HBR.out)
      have HD := Lib.hid (seq_own (xs := pureTo f N) (by have := R.out.own; rw [List.length_map] at this; exact this) : SeqAt (Value.int .i64) wr B (pureTo f N))
      have hpl := pureTo_len f N
      have hq : (evalM m f == evalM m f) = true := by simp
      go_wp2_with fail
      refine (mayB HWN.out HFR.out hl ht.out).mono ?_
      rintro e w2 ⟨rfl, rfl⟩
      go_wp2_with fail
      refine (evalB HFR.out hl HMR.out hml rfl).mono ?_
      rintro e w2 ⟨rfl, hb2⟩
      have HB2 := Lib.hid (Below.on HBR.out hb2)
      have HF2 := Lib.hid (HFR.out.keep hb2)
      have HM2 := Lib.hid (HMR.out.keep hb2)
      have HD2 := Lib.hid (HD.out.keep hb2)
      clear hb2
      go_wp2_with fail
      refine (revalB HF2.out hl HM2.out hml rfl).mono ?_
      rintro e w3 ⟨rfl, rfl⟩
      go_wp2_with fail
      refine (pureS HWN.out HF2.out hl (.inr ⟨ht.out, N, rfl, rfl⟩)).mono ?_
      rintro e w3 ⟨P, pcap, rfl, hp, hb3⟩
      have HB3 := Lib.hid (Below.on HB2.out hb3)
      have HD3 := Lib.hid (HD2.out.keep hb3)
      have HP := Lib.hid hp
      clear hp hb3
      go_wp2_with fail
      refine (sameB HP.out HD3.out (by omega) (by omega) (r := true) (by simp)).mono ?_
      rintro e w4 ⟨rfl, hb4⟩
      have HB4 := Lib.hid (Below.on HB3.out hb4)
      clear hb4
      go_wp2_with fail
      go_ret
      exact ⟨rfl, HB4.out⟩
end Go.Proofs.Ytdgmjdppiolkkaa.clauseAsks
