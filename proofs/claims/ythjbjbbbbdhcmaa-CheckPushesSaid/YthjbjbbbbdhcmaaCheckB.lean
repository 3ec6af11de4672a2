/-
  The law CheckPushes over what Run is to answer.
-/
import Derived.Test.YthjbjbbbbdhcmaaCheckA
namespace Go.Proofs.Ythjbjbbbbdhcmaa
open Go.ChangeShapes Go.WideShapes Go.ChangeAt Go.RowKit Go.Joins
set_option linter.unusedVariables false

/-- How far the law's own reckoning has come: still well (the height), or the first that is not. -/
def PS (l : List Bool) (k : Nat) (h a : Int) : Prop :=
  (a = -1 ∧ h = hgt l k ∧ ∀ j, j ≤ k → 0 ≤ hgt l j ∧ hgt l j ≤ 16) ∨ ∃ q : Nat, q < k ∧ a = q ∧ (∀ j, j ≤ q → 0 ≤ hgt l j ∧ hgt l j ≤ 16) ∧ ¬ (0 ≤ hgt l (q + 1) ∧ hgt l (q + 1) ≤ 16)
theorem take_push {l : List Bool} {k : Nat} {b : Bool} (h : l[k]? = some b) : (l.take (k + 1)).map pushI = (l.take k).map pushI ++ [pushI b] := by
  obtain ⟨hi, he⟩ := List.getElem?_eq_some_iff.1 h
  rw [List.take_succ_eq_append_getElem hi, he]
  simp
theorem pushL_wf {l : List Bool} : ∀ x ∈ pushL l, (Lit.int .i64 x.1).wf = true ∧ (Lit.int .i64 x.2).wf = true := fun x hx => by
  unfold pushL at hx
  rcases List.mem_append.1 hx with hx | hx
  · obtain ⟨b, _, rfl⟩ := List.mem_map.1 hx
    cases b <;> decide
  · simp only [List.mem_cons, List.mem_nil_iff, or_false] at hx
    rcases hx with rfl | rfl <;> decide
set_option maxRecDepth 100000 in
set_option maxHeartbeats 8000000 in
theorem pushes_walk (r : RunC) (aw : AwC) {w : World} {A : Option Addr} {l : List Bool} {ca : Nat} (hb : BitsAt w A l) (hn : l.length ≤ 9223372036854775807) :
    Calls Try.prog 7 #[.slice A l.length ca] w fun e w' => e = .returned (.bool true) ∧ Gw w w' := by
  have AW := aw w
  have HB := Lib.hid hb
  clear hb
  by_cases h80 : 80 < l.length
  · have f1 : decide ((80 : Int) < l.length) = true := decide_eq_true (by omega)
    clear h80
    go_enter Try.func7, Try.ntmps7
    go_wp2_with (go_at_call 8; with_reducible refine AW.mono ?_; rintro e w1 ⟨rfl, G1⟩)
    go_ret
    exact ⟨rfl, G1⟩
  have f1 : decide ((80 : Int) < l.length) = false := decide_eq_false (by omega)
  have hl : l.length ≤ 80 := by omega
  clear h80
  obtain ⟨i0, hi1, hi2, hi3, hi4⟩ := info_inst
  have HI := Lib.hid (show _ ∧ _ ∧ _ ∧ _ from ⟨hi1, hi2, hi3, hi4⟩)
  clear hi1 hi2 hi3 hi4
  go_enter Try.func7, Try.ntmps7
  go_upto_region 6 with (go_at_call 8; with_reducible refine AW.mono ?_; rintro e w1 ⟨rfl, G1⟩)
  have P0 := Lib.hid (PV.start G1)
  generalize w1.alloc (.cells #[.slice none 0 0, .slice none 0 0] 25) = w2 at *
  generalize w1.heap.size = pv at *
  go_wp2
  go_loopw [4, 5, 6] (fun h a i wr => ∃ (k : Nat) (H X : Int) (u : Value), k ≤ l.length ∧ h = .int .i64 H ∧ a = .int .i64 X ∧ i = .int .i64 k ∧ Hid (PV w wr pv u ((l.take k).map pushI)) ∧ Hid (PS l k H X)) (fun _ _ i _ => l.length - (intOf i).toNat)
  case atStart => exact ⟨0, 0, -1, _, by omega, rfl, rfl, rfl, P0.out, .inl ⟨rfl, (hgt_zero l).symm, fun j hj => by obtain rfl : j = 0 := by omega
                                                                                                                    rw [hgt_zero]; omega⟩⟩
  case round =>
    obtain ⟨k, H, X, u, hk, rfl, rfl, rfl, HP, HPS⟩ := hrel
    clear P0
    have HLT := Lib.hid HP.out.lt
    have c0 := HP.out.var.cell 0
    by_cases hlt : k < l.length
    · obtain ⟨b, hb⟩ : ∃ b, l[k]? = some b := ⟨_, List.getElem?_eq_getElem hlt⟩
      have hpl : ((l.take k).map pushI).length = k := by simp; omega
      have HPL := Lib.hid hpl
      have HROW : Hid (wr.ownsRow (pv + 1) 38 2 u k (iCells ((l.take k).map pushI))) := by have := HP.out.row; rw [hpl] at this; exact this
      clear hpl
      obtain ⟨g, off, rfl, hg, cb0⟩ := (HB.out.gw HP.out.gw) k b hb
      have HBA : Hid (True ∧ ∀ {w' : World}, Gw w w' → w'.cell? ⟨g, off + k, none⟩ = some (.bool b)) := ⟨trivial, fun {w'} gw => by
        obtain ⟨g', off', e', _, hc⟩ := (HB.out.gw gw) k b hb
        injection e' with e'
        injection e' with ea eb
        subst ea
        subst eb
        exact hc⟩
      cases b with
      | true =>
        have HTK := Lib.hid (take_push hb)
        have HS := Lib.hid (hgt_succ hb)
        clear hb
        go_upto_region 14 with (at_builtin; refine wpList_append_lies _ rfl _ _ _ rfl (pv + 1) 38 i0 _ 2 16 Try.underlying22 HI.out.1 HI.out.2.1 HI.out.2.2.1 HI.out.2.2.2 rfl (by omega) u k (iCells (((l.take k).map pushI))) rfl (HROW.out.alloc _) ⟨_, 0, none⟩ 1 1 [.int .i64 1, .int .i64 0] rfl rfl (World.news_of_block (cs := #[.int .i64 1, .int .i64 0]) (t := 38) (fr := (0, 0)) (heap_alloc_new _ _)) (by simp [Value.oneCell']) (by omega) (by unfold maxLen; omega) (by omega) (by have := HLT.out; simp; omega) _ rfl ?_; intro g1 c1 wp hown1 hg1 hat1 hlt1; have hv1 := HP.out.var_at hg1; have cv := hv1.cell 0; have cz := hv1.free 0)
        have PN := Lib.hid (HP.out.add (M := [(1, 0)]) (by rw [HPL.out]; rfl) hown1 hg1)
        clear hown1 hg1 hat1 hlt1 hv1 cv cz c0
        generalize wp.setCell ⟨pv, 0, none⟩ (.slice (some ⟨g1, 0, none⟩) (k + 1) c1) = w4 at *
        have PN2 : Hid (PV w w4 pv (.slice (some ⟨g1, 0, none⟩) (k + 1) c1) ((l.take (k + 1)).map pushI)) := by rw [HTK.out]; exact PN.out
        generalize (Value.slice (some ⟨g1, 0, none⟩) (k + 1) c1) = u4 at *
        clear PN HTK
        have cb := HBA.out.2 (PN2.out.gw)
        rcases HPS.out with ⟨rfl, rfl, hj⟩ | ⟨q, hq, rfl, hj, hq2⟩
        · have hr := hj k (Nat.le_refl _)
          obtain ⟨H1, hH1⟩ : ∃ H1, H1 = hgt l (k + 1) := ⟨_, rfl⟩
          have hh : H1 = hgt l k + 1 := by rw [hH1, HS.out]; simp
          have HJ := Lib.hid hj
          have HH1 := Lib.hid hH1
          have w1' : IntKind.i64.wrap (hgt l k + 1) = H1 := by rw [← hh]; exact wrap_in (by omega) (by omega)
          by_cases hbad : 16 < H1
          · have f2 : decide ((16 : Int) < H1) = true := decide_eq_true hbad
            have f3 : decide (H1 < 0) = false := decide_eq_false (by omega)
            have HPN : Hid (PS l (k + 1) H1 (k : Int)) := .inr ⟨k, by omega, rfl, HJ.out, by rw [← HH1.out]; omega⟩
            clear hbad hr hh hj hH1 HPS
            go_wp2
            go_roundw
            case rel => exact ⟨k + 1, H1, k, u4, by omega, rfl, rfl, by go_num, PN2.out, HPN.out⟩
            case measure => simp [intOf]; omega
          · have f2 : decide ((16 : Int) < H1) = false := decide_eq_false (by omega)
            have f3 : decide (H1 < 0) = false := decide_eq_false (by omega)
            have HPN : Hid (PS l (k + 1) H1 (-1)) := .inl ⟨rfl, HH1.out, fun j hj' => by
              by_cases e : j = k + 1
              · subst e; rw [← HH1.out]; omega
              · exact HJ.out j (by omega)⟩
            clear hbad hr hh hj hH1 HPS
            go_wp2
            go_roundw
            case rel => exact ⟨k + 1, H1, -1, u4, by omega, rfl, rfl, by go_num, PN2.out, HPN.out⟩
            case measure => simp [intOf]; omega
        · have HPN : Hid (PS l (k + 1) H q) := .inr ⟨q, by omega, rfl, hj, hq2⟩
          have f2 : decide ((0 : Int) ≤ q) = true := decide_eq_true (by omega)
          clear hj hq2 HPS
          go_wp2
          go_roundw
          case rel => exact ⟨k + 1, H, q, u4, by omega, rfl, rfl, by go_num, PN2.out, HPN.out⟩
          case measure => simp [intOf]; omega
      | false =>
        have HTK := Lib.hid (take_push hb)
        have HS := Lib.hid (hgt_succ hb)
        clear hb
        go_upto_region 14 with (at_builtin; refine wpList_append_lies _ rfl _ _ _ rfl (pv + 1) 38 i0 _ 2 16 Try.underlying22 HI.out.1 HI.out.2.1 HI.out.2.2.1 HI.out.2.2.2 rfl (by omega) u k (iCells (((l.take k).map pushI))) rfl (HROW.out.alloc _) ⟨_, 0, none⟩ 1 1 [.int .i64 2, .int .i64 0] rfl rfl (World.news_of_block (cs := #[.int .i64 2, .int .i64 0]) (t := 38) (fr := (0, 0)) (heap_alloc_new _ _)) (by simp [Value.oneCell']) (by omega) (by unfold maxLen; omega) (by omega) (by have := HLT.out; simp; omega) _ rfl ?_; intro g1 c1 wp hown1 hg1 hat1 hlt1; have hv1 := HP.out.var_at hg1; have cv := hv1.cell 0; have cz := hv1.free 0)
        have PN := Lib.hid (HP.out.add (M := [(2, 0)]) (by rw [HPL.out]; rfl) hown1 hg1)
        clear hown1 hg1 hat1 hlt1 hv1 cv cz c0
        generalize wp.setCell ⟨pv, 0, none⟩ (.slice (some ⟨g1, 0, none⟩) (k + 1) c1) = w4 at *
        have PN2 : Hid (PV w w4 pv (.slice (some ⟨g1, 0, none⟩) (k + 1) c1) ((l.take (k + 1)).map pushI)) := by rw [HTK.out]; exact PN.out
        generalize (Value.slice (some ⟨g1, 0, none⟩) (k + 1) c1) = u4 at *
        clear PN HTK
        have cb := HBA.out.2 (PN2.out.gw)
        rcases HPS.out with ⟨rfl, rfl, hj⟩ | ⟨q, hq, rfl, hj, hq2⟩
        · have hr := hj k (Nat.le_refl _)
          obtain ⟨H1, hH1⟩ : ∃ H1, H1 = hgt l (k + 1) := ⟨_, rfl⟩
          have hh : H1 = hgt l k - 1 := by rw [hH1, HS.out]; simp; omega
          have HJ := Lib.hid hj
          have HH1 := Lib.hid hH1
          have w1' : IntKind.i64.wrap (hgt l k - 1) = H1 := by rw [← hh]; exact wrap_in (by omega) (by omega)
          by_cases hbad : H1 < 0
          · have f2 : decide (H1 < 0) = true := decide_eq_true hbad
            have f3 : decide (H1 < 0) = true := decide_eq_true (by omega)
            have HPN : Hid (PS l (k + 1) H1 (k : Int)) := .inr ⟨k, by omega, rfl, HJ.out, by rw [← HH1.out]; omega⟩
            clear hbad hr hh hj hH1 HPS
            go_wp2
            go_roundw
            case rel => exact ⟨k + 1, H1, k, u4, by omega, rfl, rfl, by go_num, PN2.out, HPN.out⟩
            case measure => simp [intOf]; omega
          · have f2 : decide ((16 : Int) < H1) = false := decide_eq_false (by omega)
            have f3 : decide (H1 < 0) = false := decide_eq_false (by omega)
            have HPN : Hid (PS l (k + 1) H1 (-1)) := .inl ⟨rfl, HH1.out, fun j hj' => by
              by_cases e : j = k + 1
              · subst e; rw [← HH1.out]; omega
              · exact HJ.out j (by omega)⟩
            clear hbad hr hh hj hH1 HPS
            go_wp2
            go_roundw
            case rel => exact ⟨k + 1, H1, -1, u4, by omega, rfl, rfl, by go_num, PN2.out, HPN.out⟩
            case measure => simp [intOf]; omega
        · have HPN : Hid (PS l (k + 1) H q) := .inr ⟨q, by omega, rfl, hj, hq2⟩
          have f2 : decide ((0 : Int) ≤ q) = true := decide_eq_true (by omega)
          clear hj hq2 HPS
          go_wp2
          go_roundw
          case rel => exact ⟨k + 1, H, q, u4, by omega, rfl, rfl, by go_num, PN2.out, HPN.out⟩
          case measure => simp [intOf]; omega
    · obtain rfl : k = l.length := by omega
      rw [List.take_length] at HP
      have hpl : (l.map pushI).length = l.length := by simp
      have HPL := Lib.hid hpl
      have HROW : Hid (wr.ownsRow (pv + 1) 38 2 u l.length (iCells (l.map pushI))) := by have := HP.out.row; rw [hpl] at this; exact this
      clear hpl
      go_upto_region 21 with (at_builtin; refine wpList_append_lies _ rfl _ _ _ rfl (pv + 1) 38 i0 _ 2 16 Try.underlying22 HI.out.1 HI.out.2.1 HI.out.2.2.1 HI.out.2.2.2 rfl (by omega) u l.length (iCells (l.map pushI)) rfl (HROW.out.alloc _) ⟨_, 0, none⟩ 2 2 [.int .i64 1, .int .i64 0, .int .i64 26, .int .i64 0] rfl rfl (World.news_of_block (cs := #[.int .i64 1, .int .i64 0, .int .i64 26, .int .i64 0]) (t := 38) (fr := (0, 0)) (heap_alloc_new _ _)) (by simp [Value.oneCell']) (by omega) (by unfold maxLen; omega) (by omega) (by have := HLT.out; simp; omega) _ rfl ?_; intro g1 c1 wp hown1 hg1 hat1 hlt1; have hv1 := HP.out.var_at hg1; have cv := hv1.cell 0; have cz := hv1.free 0)
      have PN := Lib.hid (HP.out.add (M := [(1, 0), (26, 0)]) (by rw [HPL.out]; rfl) hown1 hg1)
      clear hown1 hg1 hat1 hlt1 hv1 cv cz c0
      generalize wp.setCell ⟨pv, 0, none⟩ (.slice (some ⟨g1, 0, none⟩) (l.length + 2) c1) = w4 at *
      have PN2 : Hid (PV w w4 pv (.slice (some ⟨g1, 0, none⟩) (l.length + 2) c1) (pushL l)) := PN.out
      obtain ⟨A9, ca9, e9, PK⟩ := PN2.out.pok pushL_wf
      rw [pushL_len] at e9
      injection e9 with e9a _ e9b
      subst e9a
      subst e9b
      have RC := Lib.hid (r PK)
      rw [pushL_len] at RC
      have c0 := PN2.out.var.cell 0
      have c1' := PN2.out.var.cell 1
      have GW := Lib.hid PN2.out.gw
      have same : ∀ j, j ≤ l.length → hgt' l j = hgt l j := fun j hj => if_pos hj
      have last : hgt' l (l.length + 1) = hgt l l.length + 1 := if_neg (by omega)
      have SA := Lib.hid same
      have LA := Lib.hid last
      clear PK PN same last HP HROW
      rcases HPS.out with ⟨rfl, rfl, hj⟩ | ⟨q, hq, rfl, hj, hq2⟩
      · have HJ := Lib.hid hj
        clear hj HPS
        by_cases h16 : hgt l l.length = 16
        · have e16 : (hgt l l.length == 16) = true := by simp [h16]
          have IS := Lib.hid (push_stack hl (i := l.length) (Nat.le_refl _) (fun j hj => by rw [SA.out j hj]; exact HJ.out j hj) (by rw [LA.out]; omega))
          have RR : Calls Try.prog 10 #[.agg #[.slice (some ⟨g1, 0, none⟩) (l.length + 2) c1, .slice none 0 0]] w4 fun e W' => e = .returned (.tuple #[.int .i64 l.length, .int .i64 7]) ∧ Gw w4 W' := RC.out.mono fun e W' ⟨k9, f9, hs9, he, hi, hg⟩ => by
            obtain ⟨rfl, rfl, rfl⟩ := Is.det hi IS.out
            exact ⟨he, hg⟩
          clear h16 RC
          go_wp2_with (go_at_call 10; with_reducible refine RR.mono ?_; rintro e w5 ⟨rfl, G5⟩)
          go_ret
          exact ⟨by simp, GW.out.trans G5⟩
        · have e16 : (hgt l l.length == 16) = false := by simp [h16]
          have IS : Hid (∃ hs, Is (pushL l) [] 0 0 hs) := push_well hl (fun j hj => by
            by_cases e : j = l.length + 1
            · subst e; rw [LA.out]; have := HJ.out l.length (Nat.le_refl _); omega
            · rw [SA.out j (by omega)]; exact HJ.out j (by omega))
          have RR : Calls Try.prog 10 #[.agg #[.slice (some ⟨g1, 0, none⟩) (l.length + 2) c1, .slice none 0 0]] w4 fun e W' => e = .returned (.tuple #[.int .i64 0, .int .i64 0]) ∧ Gw w4 W' := RC.out.mono fun e W' ⟨k9, f9, hs9, he, hi, hg⟩ => by
            obtain ⟨hs0, IS0⟩ := IS.out
            obtain ⟨rfl, rfl, rfl⟩ := Is.det hi IS0
            exact ⟨he, hg⟩
          clear h16 RC
          go_wp2_with (go_at_call 10; with_reducible refine RR.mono ?_; rintro e w5 ⟨rfl, G5⟩)
          go_ret
          exact ⟨by simp, GW.out.trans G5⟩
      · have IS := Lib.hid (push_stack hl (i := q) (by omega) (fun j hj' => by rw [SA.out j (by omega)]; exact hj j hj') (by rw [SA.out (q + 1) (by omega)]; exact hq2))
        have RR : Calls Try.prog 10 #[.agg #[.slice (some ⟨g1, 0, none⟩) (l.length + 2) c1, .slice none 0 0]] w4 fun e W' => e = .returned (.tuple #[.int .i64 q, .int .i64 7]) ∧ Gw w4 W' := RC.out.mono fun e W' ⟨k9, f9, hs9, he, hi, hg⟩ => by
          obtain ⟨rfl, rfl, rfl⟩ := Is.det hi IS.out
          exact ⟨he, hg⟩
        have f2 : decide ((q : Int) < 0) = false := decide_eq_false (by omega)
        have f3 : decide ((0 : Int) ≤ q) = true := decide_eq_true (by omega)
        clear RC hj hq2 HPS
        go_wp2_with (go_at_call 10; with_reducible refine RR.mono ?_; rintro e w5 ⟨rfl, G5⟩)
        go_ret
        exact ⟨by simp, GW.out.trans G5⟩
end Go.Proofs.Ythjbjbbbbdhcmaa
