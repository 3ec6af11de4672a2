/-
  The law UnitRuns, where the arguments hold together at most 1048576 values: any formula, whatever is assigned: what follows, or that it cannot be, or why it is none. Its condition: that bound alone.
-/
import Derived.Test.YtigomnbcalpohaaUnitB
import Derived.Test.YtigomnbcalpohaaUnitY
import Derived.Deep.DeepCutAuto
namespace Go.Proofs.Ytigomnbcalpohaa.unitRuns
open Go.ChangeShapes Go.WideShapes Go.ChangeAt Go.RowKit
set_option linter.unusedVariables false

theorem stay_no {b s : Bool} (u : Bool) (h : (b && !s) = false) : (b && !(s || u)) = false := by cases b <;> cases s <;> simp_all
theorem stay_yes {b s : Bool} (u : Bool) (h : (b && !s) = true) : (b && !(s || u)) = !u := by cases b <;> cases s <;> simp_all
set_option maxHeartbeats 3200000 in
set_option maxRecDepth 100000 in
theorem walk (a0 : Int) (v1 v2 : Value) (w : World) (h0 : (Lit.int .i64 a0).wf = true) (h1 : FormB w v1) (h2 : IntsN w v2) :
    Calls Try.prog 3 #[.int .i64 a0, v1, v2] w fun e w' => e = .returned (.bool true) ∧ Below w.heap.size w w' := by
  obtain ⟨A, f, fcap, rfl, hf, hfl, hfc⟩ := h1
  obtain ⟨B, m, mcap, rfl, hm, hml, hmw, hmn⟩ := h2
  have hwf := wf_of h0
  have HF0 := Lib.hid hf
  have HFC := Lib.hid hfc
  have HM0 := Lib.hid hm
  have HMN := Lib.hid hmn
  clear hf hm hfc hmn hmw h0
  go_enter Try.func3, Try.ntmps3
  go_wp2_with fail
  refine (awake_any _).mono ?_
  rintro e w1 ⟨rfl, hb⟩
  have HB1 := Lib.hid hb
  have HF := Lib.hid (HF0.out.keep hb)
  have HM := Lib.hid (HM0.out.keep hb)
  clear hb
  have cs := Lib.hid (small_is A f fcap 3000 w1 HF.out hfl HFC.out)
  have cm := Lib.hid (rmay_any a0 A f fcap w1 hwf HF.out (by omega))
  by_cases hs : (sizeM f : Int) ≤ 3000
  · have hs2 := decide_eq_true hs
    rw [hs2] at cs
    by_cases hl300 : (300 : Int) < (m.length : Int)
    · go_wp2_with (first | (go_at_call 10; ((with_reducible refine cs.out.mono ?_); rintro e w' ⟨rfl, rfl⟩)))
      go_ret
      exact ⟨rfl, HB1.out⟩
    · have hl3 : (m.length : Int) ≤ 300 := by omega
      have hlen : f.length ≤ 100000 := by have := size_len f; omega
      have HFS : Hid (∀ c ∈ f, c.length ≤ 100000) := fun c hc => by have := size_le hc; omega
      have cr := Lib.hid (run_any (A := A) (M := B) (fcap := fcap) (mcap := mcap) a0 w1 hwf HF.out hlen HFS.out HM.out hml HMN.out)
      clear hs hs2 hl300
      cases hmay : mayM a0 f with
      | false =>
        rw [hmay] at cm
        have HB0 : Hid (false = (mayM a0 f && decide ((m.length : Int) = a0))) := by rw [hmay]; rfl
        clear hmay
        go_wp2_with (first | (go_at_call 10; ((with_reducible refine cs.out.mono ?_); rintro e w' ⟨rfl, rfl⟩)) | (go_at_call 11; ((with_reducible refine cm.out.mono ?_); rintro e w' ⟨rfl, rfl⟩)))
        go_loop [7, 8] (fun v i => ∃ j : Nat, j ≤ m.length ∧ i = .int .i64 j ∧ v = .bool (false && !(m.take j).any unk)) (fun _ i => m.length - (intOf i).toNat)
        case atStart => exact ⟨0, by omega, rfl, by simp⟩
        case round =>
          obtain ⟨j, hj, rfl, rfl⟩ := hrel
          by_cases hlt : j < m.length
          · obtain ⟨x, hz⟩ : ∃ x, m[j]? = some x := ⟨_, List.getElem?_eq_getElem hlt⟩
            obtain ⟨a, rfl, hcx⟩ := HM.out.get j x hz
            have HE := Lib.hid (any_take (p := unk) hz)
            clear hz
            cases ho : (false && !(m.take j).any unk) with
            | false =>
              have HO : Hid ((false && !(m.take (j + 1)).any unk) = false) := by
                rw [HE.out]; exact stay_no _ ho
              clear ho
              go_wp2_with fail
              go_round
              case rel => exact ⟨j + 1, by omega, by go_num, by rw [HO.out]⟩
              case measure => simp [intOf]; omega
            | true =>
              have HO : Hid ((false && !(m.take (j + 1)).any unk) = !unk x) := by
                rw [HE.out]; exact stay_yes _ ho
              clear ho
              by_cases hx1 : x < -1
              · have hx2 : ¬ (-1 ≤ x) := by omega
                have HU := Lib.hid (show unk x = true from decide_eq_true (.inl hx1))
                go_wp2_with fail
                go_round
                case rel => exact ⟨j + 1, by omega, by go_num, by rw [HO.out, HU.out]; rfl⟩
                case measure => simp [intOf]; omega
              · have hx2 : -1 ≤ x := by omega
                by_cases hx3 : x ≤ 1
                · have HU := Lib.hid (show unk x = false from decide_eq_false (by omega))
                  go_wp2_with fail
                  go_round
                  case rel => exact ⟨j + 1, by omega, by go_num, by rw [HO.out, HU.out]; rfl⟩
                  case measure => simp [intOf]; omega
                · have HU := Lib.hid (show unk x = true from decide_eq_true (by omega))
                  go_wp2_with fail
                  go_round
                  case rel => exact ⟨j + 1, by omega, by go_num, by rw [HO.out, HU.out]; rfl⟩
                  case measure => simp [intOf]; omega
          · obtain rfl : m.length = j := by omega
            have HFI : Hid ((false && !(m.take m.length).any unk) = fine a0 f m) := by rw [List.take_length, HB0.out]; rfl
            rw [HFI.out]
            clear hlt hj cm cs
            go_wp2_with fail
            refine cr.out.mono ?_
            rintro e w2 ⟨hb2, ⟨hno, rfl⟩ | ⟨hyes, hans, rfl⟩ | ⟨hyes, t, tA, tcap, hans, rfl, hts, htn⟩⟩
            · have HB2 := Lib.hid (Below.on HB1.out hb2)
              rw [hno]
              clear hb2 cr hno
              go_wp2_with fail
              go_ret
              exact ⟨rfl, HB2.out⟩
            · rw [← HFI.out] at hyes; cases hyes
            · rw [← HFI.out] at hyes; cases hyes
      | true =>
        rw [hmay] at cm
        by_cases hle : (m.length : Int) = a0
        · have e1 : ((m.length : Int) == a0) = true := by simpa using hle
          have HB0 : Hid (true = (mayM a0 f && decide ((m.length : Int) = a0))) := by rw [hmay, decide_eq_true hle]; rfl
          clear hmay
          go_wp2_with (first | (go_at_call 10; ((with_reducible refine cs.out.mono ?_); rintro e w' ⟨rfl, rfl⟩)) | (go_at_call 11; ((with_reducible refine cm.out.mono ?_); rintro e w' ⟨rfl, rfl⟩)))
          go_loop [7, 8] (fun v i => ∃ j : Nat, j ≤ m.length ∧ i = .int .i64 j ∧ v = .bool (true && !(m.take j).any unk)) (fun _ i => m.length - (intOf i).toNat)
          case atStart => exact ⟨0, by omega, rfl, by simp⟩
          case round =>
            obtain ⟨j, hj, rfl, rfl⟩ := hrel
            by_cases hlt : j < m.length
            · obtain ⟨x, hz⟩ : ∃ x, m[j]? = some x := ⟨_, List.getElem?_eq_getElem hlt⟩
              obtain ⟨a, rfl, hcx⟩ := HM.out.get j x hz
              have HE := Lib.hid (any_take (p := unk) hz)
              clear hz
              cases ho : (true && !(m.take j).any unk) with
              | false =>
                have HO : Hid ((true && !(m.take (j + 1)).any unk) = false) := by
                  rw [HE.out]; exact stay_no _ ho
                clear ho
                go_wp2_with fail
                go_round
                case rel => exact ⟨j + 1, by omega, by go_num, by rw [HO.out]⟩
                case measure => simp [intOf]; omega
              | true =>
                have HO : Hid ((true && !(m.take (j + 1)).any unk) = !unk x) := by
                  rw [HE.out]; exact stay_yes _ ho
                clear ho
                by_cases hx1 : x < -1
                · have hx2 : ¬ (-1 ≤ x) := by omega
                  have HU := Lib.hid (show unk x = true from decide_eq_true (.inl hx1))
                  go_wp2_with fail
                  go_round
                  case rel => exact ⟨j + 1, by omega, by go_num, by rw [HO.out, HU.out]; rfl⟩
                  case measure => simp [intOf]; omega
                · have hx2 : -1 ≤ x := by omega
                  by_cases hx3 : x ≤ 1
                  · have HU := Lib.hid (show unk x = false from decide_eq_false (by omega))
                    go_wp2_with fail
                    go_round
                    case rel => exact ⟨j + 1, by omega, by go_num, by rw [HO.out, HU.out]; rfl⟩
                    case measure => simp [intOf]; omega
                  · have HU := Lib.hid (show unk x = true from decide_eq_true (by omega))
                    go_wp2_with fail
                    go_round
                    case rel => exact ⟨j + 1, by omega, by go_num, by rw [HO.out, HU.out]; rfl⟩
                    case measure => simp [intOf]; omega
            · obtain rfl : m.length = j := by omega
              have HFI : Hid ((true && !(m.take m.length).any unk) = fine a0 f m) := by rw [List.take_length, HB0.out]; rfl
              rw [HFI.out]
              clear hlt hj cm cs
              go_wp2_with fail
              refine cr.out.mono ?_
              rintro e w2 ⟨hb2, ⟨hno, rfl⟩ | ⟨hyes, hans, rfl⟩ | ⟨hyes, t, tA, tcap, hans, rfl, hts, htn⟩⟩
              · have HB2 := Lib.hid (Below.on HB1.out hb2)
                rw [hno]
                clear hb2 cr hno
                go_wp2_with fail
                go_ret
                exact ⟨rfl, HB2.out⟩
              · have HB2 := Lib.hid (Below.on HB1.out hb2)
                have hq := hyes
                unfold fine at hq
                simp only [Bool.and_eq_true] at hq
                obtain ⟨⟨q1, q2⟩, q3⟩ := hq
                have q2 := of_decide_eq_true q2
                subst q2
                have cu := Lib.hid (unit_any (n := m.length) (fcap := fcap) (mcap := mcap) (m.length : Int) w2 (HF.out.keep hb2) (by omega) (HM.out.keep hb2) (unk_tv (by simpa using q3)) ((may_ok q1 HF.out.wf).2.2 m.length rfl) (by omega) HMN.out)
                rw [hyes]
                clear hb2 cr hyes q1 q3
                go_wp2_with fail
                refine cu.out.mono ?_
                rintro e w3 ⟨hb3, ⟨_, rfl⟩ | ⟨t, tB, tcap, hans2, _⟩⟩
                · have HB3 := Lib.hid (Below.on HB2.out hb3)
                  clear hb3 cu
                  go_wp2_with fail
                  refine (sameB (A := none) (B := none) (a := []) (b := []) (acap := 0) (bcap := 0) (SeqAt.nil _ _) (SeqAt.nil _ _) (by decide) (by decide) (r := true) (by decide)).mono ?_
                  rintro e w4 ⟨rfl, hb4⟩
                  have HB4 := Lib.hid (Below.on HB3.out hb4)
                  clear hb4
                  go_wp2_with fail
                  go_ret
                  exact ⟨rfl, HB4.out⟩
                · have := hans.det hans2; cases this
              · have HB2 := Lib.hid (Below.on HB1.out hb2)
                have HT2 := Lib.hid hts
                have hq := hyes
                unfold fine at hq
                simp only [Bool.and_eq_true] at hq
                obtain ⟨⟨q1, q2⟩, q3⟩ := hq
                have q2 := of_decide_eq_true q2
                subst q2
                have htl : t.length = m.length := hans.1.1
                have cu := Lib.hid (unit_any (n := m.length) (fcap := fcap) (mcap := mcap) (m.length : Int) w2 (HF.out.keep hb2) (by omega) (HM.out.keep hb2) (unk_tv (by simpa using q3)) ((may_ok q1 HF.out.wf).2.2 m.length rfl) (by omega) HMN.out)
                have HTL := Lib.hid htl
                rw [hyes]
                clear hb2 cr hyes q1 q3 hts htn htl
                go_wp2_with fail
                refine cu.out.mono ?_
                rintro e w3 ⟨hb3, ⟨hno, _⟩ | ⟨t2, tB, tcap2, hans2, rfl, hs3⟩⟩
                · have := hans.det hno; cases this
                · obtain rfl : t = t2 := by have := hans.det hans2; injection this
                  have HB3 := Lib.hid (Below.on HB2.out hb3)
                  have cs2 := Lib.hid (sameB (acap := tcap) (bcap := tcap2) (w := w3) (HT2.out.keep hb3) hs3 (by have := HTL.out; omega) (by have := HTL.out; omega) (r := true) (by simp))
                  clear hb3 cu hs3 hans hans2
                  go_wp2_with fail
                  with_reducible refine cs2.out.mono ?_
                  rintro e w4 ⟨rfl, hb4⟩
                  have HB4 := Lib.hid (Below.on HB3.out hb4)
                  clear hb4 cs2
                  go_wp2_with fail
                  go_ret
                  exact ⟨rfl, HB4.out⟩
        · have e1 : ((m.length : Int) == a0) = false := by simpa using hle
          have HB0 : Hid (false = (mayM a0 f && decide ((m.length : Int) = a0))) := by rw [hmay, decide_eq_false hle]; rfl
          clear hmay
          go_wp2_with (first | (go_at_call 10; ((with_reducible refine cs.out.mono ?_); rintro e w' ⟨rfl, rfl⟩)) | (go_at_call 11; ((with_reducible refine cm.out.mono ?_); rintro e w' ⟨rfl, rfl⟩)))
          go_loop [7, 8] (fun v i => ∃ j : Nat, j ≤ m.length ∧ i = .int .i64 j ∧ v = .bool (false && !(m.take j).any unk)) (fun _ i => m.length - (intOf i).toNat)
          case atStart => exact ⟨0, by omega, rfl, by simp⟩
          case round =>
            obtain ⟨j, hj, rfl, rfl⟩ := hrel
            by_cases hlt : j < m.length
            · obtain ⟨x, hz⟩ : ∃ x, m[j]? = some x := ⟨_, List.getElem?_eq_getElem hlt⟩
              obtain ⟨a, rfl, hcx⟩ := HM.out.get j x hz
              have HE := Lib.hid (any_take (p := unk) hz)
              clear hz
              cases ho : (false && !(m.take j).any unk) with
              | false =>
                have HO : Hid ((false && !(m.take (j + 1)).any unk) = false) := by
                  rw [HE.out]; exact stay_no _ ho
                clear ho
                go_wp2_with fail
                go_round
                case rel => exact ⟨j + 1, by omega, by go_num, by rw [HO.out]⟩
                case measure => simp [intOf]; omega
              | true =>
                have HO : Hid ((false && !(m.take (j + 1)).any unk) = !unk x) := by
                  rw [HE.out]; exact stay_yes _ ho
                clear ho
                by_cases hx1 : x < -1
                · have hx2 : ¬ (-1 ≤ x) := by omega
                  have HU := Lib.hid (show unk x = true from decide_eq_true (.inl hx1))
                  go_wp2_with fail
                  go_round
                  case rel => exact ⟨j + 1, by omega, by go_num, by rw [HO.out, HU.out]; rfl⟩
                  case measure => simp [intOf]; omega
                · have hx2 : -1 ≤ x := by omega
                  by_cases hx3 : x ≤ 1
                  · have HU := Lib.hid (show unk x = false from decide_eq_false (by omega))
                    go_wp2_with fail
                    go_round
                    case rel => exact ⟨j + 1, by omega, by go_num, by rw [HO.out, HU.out]; rfl⟩
                    case measure => simp [intOf]; omega
                  · have HU := Lib.hid (show unk x = true from decide_eq_true (by omega))
                    go_wp2_with fail
                    go_round
                    case rel => exact ⟨j + 1, by omega, by go_num, by rw [HO.out, HU.out]; rfl⟩
                    case measure => simp [intOf]; omega
            · obtain rfl : m.length = j := by omega
              have HFI : Hid ((false && !(m.take m.length).any unk) = fine a0 f m) := by rw [List.take_length, HB0.out]; rfl
              rw [HFI.out]
              clear hlt hj cm cs
              go_wp2_with fail
              refine cr.out.mono ?_
              rintro e w2 ⟨hb2, ⟨hno, rfl⟩ | ⟨hyes, hans, rfl⟩ | ⟨hyes, t, tA, tcap, hans, rfl, hts, htn⟩⟩
              · have HB2 := Lib.hid (Below.on HB1.out hb2)
                rw [hno]
                clear hb2 cr hno
                go_wp2_with fail
                go_ret
                exact ⟨rfl, HB2.out⟩
              · rw [← HFI.out] at hyes; cases hyes
              · rw [← HFI.out] at hyes; cases hyes
  · have hs2 := decide_eq_false hs
    rw [hs2] at cs
    go_wp2_with (go_at_call 10; ((with_reducible refine cs.out.mono ?_); rintro e w' ⟨rfl, rfl⟩))
    go_ret
    exact ⟨rfl, HB1.out⟩

set_option maxRecDepth 100000 in
theorem contract (H : Type) (enc : TypeId × Value → H) (W : World) (base : Nat) (args : Array Value) (ds gs : List (DataW H)) (before : List MemPlace)
    (hval : ∀ (j : Nat) t v, Try.f3.params[j]? = some t → args[j]? = some v → Value.okWide Try.prog W .any base t v)
    (hW : DataW.Whole enc Try.prog Try.f3.params.toList Rows.unitRunsSpec.vars false W args.toList ds gs before) (hk : Rows.uptoSmall H (ds ++ gs) = true) :
    Calls Try.prog 3 args W fun e W' => ∃ v, e = .returned v ∧ Rows.unitRunsSpec.post enc Try.prog Try.f3 false true false false W args v W' := by
  have hW' := hW
  obtain ⟨p, q, hA0, hV, rfl, hfz, hnd⟩ := hW
  have hA : DataW.TrodAll enc Try.prog W 0 (fun _ => true) true Try.f3.params.toList args.toList ds p := hA0
  rw [Try.params3] at hA hval
  obtain ⟨v0, vs0, d0, ds0, p0, q0, hargs, rfl, rfl, h0, r0⟩ := trodAll_cons hA
  obtain ⟨v1, vs1, d1, ds1, p1, q1, rfl, rfl, rfl, h1, r1⟩ := trodAll_cons r0
  obtain ⟨v2, vs2, d2, ds2, p2, q2, rfl, rfl, rfl, h2, r2⟩ := trodAll_cons r1
  obtain ⟨rfl, rfl, rfl⟩ := trodAll_nil r2
  obtain rfl : args = #[v0, v1, v2] := by cases args; simp_all
  obtain ⟨rfl, rfl⟩ := trodVars_none hV
  simp only [List.append_nil] at hW' hk
  have hb : Rows.uptoBulkAll [d0, d1, d2] ≤ 1048576 := of_decide_eq_true hk
  simp only [Rows.uptoBulkAll] at hb
  obtain ⟨a0, rfl, rfl, rfl, w0⟩ := open_int Try.underlying3 (hval 0 3 v0 rfl rfl) h0
  have w1 : FormB W v1 := form_b Try.underlying22 Try.underlying23 Try.underlying3 cellsRow cellsInt (hval 1 22 v1 rfl rfl) h1 (by omega)
  have w2 : IntsN W v2 := ints_n Try.underlying23 Try.underlying3 cellsInt (hval 2 23 v2 rfl rfl) h2
  clear hA0
  have hlt := hW'.lt
  refine (walk a0 v1 v2 W w0 w1 w2).mono fun e W' ⟨he, hg⟩ => ?_
  subst he
  exact ⟨_, rfl, post_kept hW' hg (fun _ _ _ => (trodAll_cons_mk (shut_bool Try.underlying4 _) trodAll_mk0)) (fun sp hsp => (trodAll_cons_mk (shut_int Try.underlying3 w0) (trodAll_cons_mk (WideElems.Trod_stays laidOut (by kernel_rfl) (of_decide_eq_true (by kernel_rfl)) h1 (fun x hx => hg.same (hlt x (by first | exact hx | (simp; first | exact .inl hx | exact .inr hx | exact hx | exact .inr (.inl hx) | exact .inr (.inr hx))))) (fun x hx => hsp x (by first | exact hx | (simp; first | exact .inl hx | exact .inr hx | exact hx | exact .inr (.inl hx) | exact .inr (.inr hx))))) (trodAll_cons_mk (WideElems.Trod_stays laidOut (by kernel_rfl) (of_decide_eq_true (by kernel_rfl)) h2 (fun x hx => hg.same (hlt x (by first | exact hx | (simp; first | exact .inl hx | exact .inr hx | exact hx | exact .inr (.inl hx) | exact .inr (.inr hx))))) (fun x hx => hsp x (by first | exact hx | (simp; first | exact .inl hx | exact .inr hx | exact hx | exact .inr (.inl hx) | exact .inr (.inr hx))))) trodAll_mk0)))) (fun _ _ => rfl) (by first | rfl | simp)
    (ok_one (by kernel_rfl) rfl (okWide_bool_mk Try.underlying4 _))⟩
set_option maxRecDepth 100000 in
theorem lifted (os : Os) (started : os.Started) (H : Type) (enc : TypeId × Value → H) (F : Stop.Interp) :
    ReturnsInHanded {} Try.checked os 3 .any ((Rows.OpenSpec.upto Rows.unitRunsSpec).pre6 enc Try.prog Try.f3 Rows.unitRunsUptoRow.domain false) (((Rows.OpenSpec.upto Rows.unitRunsSpec).at F).post enc Try.prog Try.f3 false true false false) := by
  refine returnsInHanded_of_cond (C := Try.checked) (s := Rows.OpenSpec.upto Rows.unitRunsSpec) (k := Rows.uptoSmall) rfl own started (by kernel_rfl) Try.func3
    (OpenSpec.witness (enc := enc) (C := Try.checked) (s := Rows.OpenSpec.upto Rows.unitRunsSpec) (k := Rows.uptoSmall) rfl false ⟨#[], #[.int .i64 0, .slice none 0 0, .slice none 0 0], []⟩ 8 (by kernel_rfl) (by kernel_rfl) (by kernel_rfl)
      (x := ([.lit (.int .i64 0), .nil, .nil], [], [])) (by kernel_rfl) rfl (by kernel_rfl)) ?_
  intro W base args ds gs before hval hW _ hk _
  exact contract H enc W base args ds gs before hval hW hk

theorem proved : Rows.UnitRunsUptoSaid :=
  OpenClaim.holds_of_cond 3 Try.f3 rfl rfl rfl rfl rfl rfl rfl ⟨rfl, rfl, rfl, rfl, rfl⟩ rfl rfl rfl rfl rfl (by kernel_rfl) Try.func3 (by kernel_rfl)
    (of_decide_eq_true (by kernel_rfl)) (by unfold Func.isWrapper; first | (rw [if_pos (by decide +kernel)]; kernel_rfl) | (rw [if_neg (by decide +kernel)]; exact ⟨rfl, rfl⟩))
    (fun os started H enc _ F => lifted os started H enc F)
#print axioms proved
end Go.Proofs.Ytigomnbcalpohaa.unitRuns
