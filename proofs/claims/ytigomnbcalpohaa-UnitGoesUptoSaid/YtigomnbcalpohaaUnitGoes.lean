/-
  The law UnitGoes, where the arguments hold together at most 1048576 values: propagated again nothing more follows; what was assigned stays. Its condition: that bound alone.
-/
import Derived.Test.YtigomnbcalpohaaUnitB
namespace Go.Proofs.Ytigomnbcalpohaa.unitGoes
open Go.ChangeShapes Go.WideShapes Go.ChangeAt Go.RowKit
set_option linter.unusedVariables false

theorem u8_wf {a : Int} (h : (Lit.int .u8 a).wf = true) : 0 ≤ a ∧ a ≤ 255 := by
  simp [Lit.wf, IntKind.min, IntKind.max, IntKind.signed, IntKind.bits] at h
  omega
theorem rem_to (a : Int) (h0 : 0 ≤ a) (N : Nat) (hN : 0 < N) : ∃ k : Nat, a.tmod (N : Int) = k ∧ k < N := by
  have h1 := Int.tmod_nonneg (N : Int) h0
  have h2 := Int.tmod_lt_of_pos a (b := (N : Int)) (by omega)
  exact ⟨(a.tmod N).toNat, by omega, by omega⟩
theorem tv_unk {n : Nat} {t : List Int} (h : TV n t) : t.any unk = false := by
  rw [List.any_eq_false]
  intro x hx
  obtain ⟨i, hi⟩ := List.mem_iff_getElem?.1 hx
  have := h.2 i x hi
  unfold unk; simp; omega
set_option maxHeartbeats 3200000 in
set_option maxRecDepth 100000 in
theorem walk (a0 : Int) (v1 v2 : Value) (w : World) (h0 : (Lit.int .u8 a0).wf = true) (h1 : FormB w v1) (h2 : IntsN w v2) :
    Calls Try.prog 8 #[.int .u8 a0, v1, v2] w fun e w' => e = .returned (.bool true) ∧ Below w.heap.size w w' := by
  obtain ⟨A, f, fcap, rfl, hf, hfl, hfc⟩ := h1
  obtain ⟨B, m, mcap, rfl, hm, hml, hmw, hmn⟩ := h2
  obtain ⟨h3, h4⟩ := u8_wf h0
  obtain ⟨k, hk, hk2⟩ := rem_to a0 h3 20 (by decide)
  have hk' : a0.tmod 20 = (k : Int) := hk
  have HF0 := Lib.hid hf
  have HFC := Lib.hid hfc
  have HM0 := Lib.hid hm
  have HMN := Lib.hid hmn
  clear hf hm hfc hmn hmw h0 hk
  go_enter Try.func8, Try.ntmps8
  go_wp2_with fail
  refine (awake_any _).mono ?_
  rintro e w1 ⟨rfl, hb⟩
  have HB1 := Lib.hid hb
  have HF := Lib.hid (HF0.out.keep hb)
  have HM := Lib.hid (HM0.out.keep hb)
  clear hb
  have cs := Lib.hid (small_is A f fcap 500 w1 HF.out hfl HFC.out)
  have cm := Lib.hid (rmay_any (k : Int) A f fcap w1 (by unfold Wf; omega) HF.out (by omega))
  by_cases hs : (sizeM f : Int) ≤ 500
  · have hs2 := decide_eq_true hs
    rw [hs2] at cs
    cases hmay : mayM (k : Int) f with
    | false =>
      rw [hmay] at cm
      go_wp2_with (first | (go_at_call 10; ((with_reducible refine cs.out.mono ?_); rintro e w' ⟨rfl, rfl⟩)) | (go_at_call 11; ((with_reducible refine cm.out.mono ?_); rintro e w' ⟨rfl, rfl⟩)))
      go_ret
      exact ⟨rfl, HB1.out⟩
    | true =>
      rw [hmay] at cm
      by_cases hl : (m.length : Int) = (k : Int)
      · obtain rfl : m.length = k := by omega
        have hlen : f.length ≤ 100000 := by have := size_len f; omega
        have HFS : Hid (∀ c ∈ f, c.length ≤ 100000) := fun c hc => by have := size_le hc; omega
        clear hs hs2 hl
        go_wp2_with (first | (go_at_call 10; ((with_reducible refine cs.out.mono ?_); rintro e w' ⟨rfl, rfl⟩)) | (go_at_call 11; ((with_reducible refine cm.out.mono ?_); rintro e w' ⟨rfl, rfl⟩)))
        go_loop [8] (fun i => ∃ j : Nat, j ≤ m.length ∧ i = .int .i64 j ∧ Hid ((m.take j).any unk = false)) (fun i => m.length - (intOf i).toNat)
        case atStart => exact ⟨0, by omega, rfl, by simp [Hid]⟩
        case round =>
          obtain ⟨j, hj, rfl, G⟩ := hrel
          by_cases hlt : j < m.length
          · obtain ⟨x, hz⟩ : ∃ x, m[j]? = some x := ⟨_, List.getElem?_eq_getElem hlt⟩
            obtain ⟨a, rfl, hcx⟩ := HM.out.get j x hz
            by_cases hx1 : x < -1
            · clear hz
              go_wp2_with fail
              go_ret
              exact ⟨rfl, HB1.out⟩
            · by_cases hx2 : 1 < x
              · clear hz
                go_wp2_with fail
                go_ret
                exact ⟨rfl, HB1.out⟩
              · have HE := Lib.hid (show (m.take (j + 1)).any unk = false by rw [any_take hz, G.out]; exact decide_eq_false (fun h => h.elim hx1 hx2))
                clear hz
                go_wp2_with fail
                go_round
                case rel => exact ⟨j + 1, by omega, by go_num, HE.out⟩
                case measure => simp [intOf]; omega
          · obtain rfl : m.length = j := by omega
            have HU := Lib.hid (show m.any unk = false by have := G.out; rw [List.take_length] at this; exact this)
            have HFI := Lib.hid (show fine m.length f m = true by unfold fine; rw [hmay, HU.out]; simp)
            have cr := Lib.hid (run_any (A := A) (M := B) (fcap := fcap) (mcap := mcap) (m.length : Int) w1 (by unfold Wf; omega) HF.out hlen HFS.out HM.out hml HMN.out)
            clear G hlt hj hmay cs cm
            go_wp2_with fail
            refine cr.out.mono ?_
            rintro e w2 ⟨hb2, ⟨hno, _⟩ | ⟨_, _, rfl⟩ | ⟨_, t, tA, tcap, hans, rfl, hts, htn⟩⟩
            · rw [HFI.out] at hno; cases hno
            · have HB2 := Lib.hid (Below.on HB1.out hb2)
              clear hb2 cr
              go_wp2_with fail
              go_ret
              exact ⟨rfl, HB2.out⟩
            · have HANS := Lib.hid hans
              have HB2 := Lib.hid (Below.on HB1.out hb2)
              have HM2 := Lib.hid (HM.out.keep hb2)
              have HT2 := Lib.hid hts
              have htl : t.length = m.length := hans.1.1
              have cr2 := Lib.hid (run_will (A := A) (M := tA) (fcap := fcap) (mcap := tcap) (n := (m.length : Int)) (f := f) (m := t) (r := some (some t)) (by unfold Wf; omega) (HF.out.keep hb2) hlen HFS.out hts (by omega) htn ⟨by have := HFI.out; unfold fine at this ⊢; rw [htl, tv_unk hans.1]; simp at this ⊢; exact this.1, by rw [htl]; exact ⟨hans.1, Up.refl t, hans.2.2.1, fun u _ hu _ => hu⟩⟩)
              have HTL := Lib.hid htl
              clear hans hb2 hts htn cr htl
              go_wp2_with fail
              with_reducible refine cr2.out.mono ?_
              rintro e w3 ⟨hb3, sA, scap, rfl, hss, _⟩
              have HB3 := Lib.hid (Below.on HB2.out hb3)
              have HM3 := Lib.hid (HM2.out.keep hb3)
              have HT3 := Lib.hid (HT2.out.keep hb3)
              have HS3 := Lib.hid hss
              clear hb3 hss cr2
              go_wp2_with fail
              go_loopw [15] (fun v wr => ∃ j q : Nat, j ≤ m.length ∧ v = .int .i64 j ∧ Hid (wr = w3.drewN q)) (fun v _ => m.length - (intOf v).toNat)
              case atStart => exact ⟨0, 0, by omega, rfl, rfl⟩
              case round =>
                obtain ⟨j, q, hj, rfl, hwr⟩ := hrel
                by_cases hlt : j < m.length
                · obtain ⟨x, hx⟩ : ∃ x, m[j]? = some x := ⟨_, List.getElem?_eq_getElem hlt⟩
                  obtain ⟨y, hy⟩ : ∃ y, t[j]? = some y := ⟨_, List.getElem?_eq_getElem (by have := HTL.out; omega)⟩
                  obtain ⟨aB, rfl, hcb⟩ := HM3.out.get j x hx
                  obtain ⟨aT, rfl, hct⟩ := HT3.out.get j y hy
                  have hcb' : wr.cell? (aB.add j) = some (.int .i64 x) := by rw [hwr.out]; exact hcb
                  have hct' : wr.cell? (aT.add j) = some (.int .i64 y) := by rw [hwr.out]; exact hct
                  have hji : (j : Int) < (m.length : Int) := by omega
                  have hjt : (j : Int) < (t.length : Int) := by have := HTL.out; omega
                  by_cases hx0 : x = 0
                  · have e1 : (x != 0) = false := by simpa using hx0
                    have e2 : decide (x = 0) = true := by simpa using hx0
                    clear hx hy hcb hct hx0
                    go_wp2_with fail
                    go_quiet (fail)
                    go_wp2_with fail
                    go_roundw
                    case rel => exact ⟨j + 1, q + nq, by omega, by go_num, (show _ = _ from by rw [hwr.out, World.drewN_drewN])⟩
                    case measure => simp [intOf]; omega
                  · have hxy : y = x := by have := HANS.out.2.1 j x hx hx0; rw [hy] at this; injection this
                    subst hxy
                    have e1 : (y != 0) = true := by simpa using hx0
                    have e2 : (y != y) = false := by simp
                    clear hx hy hcb hct
                    go_wp2_with fail
                    go_quiet (fail)
                    go_wp2_with fail
                    go_roundw
                    case rel => exact ⟨j + 1, q + nq, by omega, by go_num, (show _ = _ from by rw [hwr.out, World.drewN_drewN])⟩
                    case measure => simp [intOf]; omega
                · have b4 : Below w3.heap.size w3 wr := by rw [hwr.out]; exact Below.draws (Below.refl _ _) q
                  have cs2 := Lib.hid (sameB (acap := tcap) (bcap := scap) (w := wr) (HT3.out.keep b4) (HS3.out.keep b4) (by have := HTL.out; omega) (by have := HTL.out; omega) (r := true) (by simp))
                  have HB4 := Lib.hid (Below.on HB3.out b4)
                  clear b4 hwr
                  go_wp2_with fail
                  with_reducible refine cs2.out.mono ?_
                  rintro e w5 ⟨rfl, hb5⟩
                  have HB5 := Lib.hid (Below.on HB4.out hb5)
                  clear hb5 cs2
                  go_wp2_with fail
                  go_ret
                  exact ⟨rfl, HB5.out⟩
      · have e1 : ((m.length : Int) != (k : Int)) = true := by simpa using hl
        go_wp2_with (first | (go_at_call 10; ((with_reducible refine cs.out.mono ?_); rintro e w' ⟨rfl, rfl⟩)) | (go_at_call 11; ((with_reducible refine cm.out.mono ?_); rintro e w' ⟨rfl, rfl⟩)))
        go_ret
        exact ⟨rfl, HB1.out⟩
  · have hs2 := decide_eq_false hs
    rw [hs2] at cs
    go_wp2_with (go_at_call 10; ((with_reducible refine cs.out.mono ?_); rintro e w' ⟨rfl, rfl⟩))
    go_ret
    exact ⟨rfl, HB1.out⟩

set_option maxRecDepth 100000 in
theorem contract (H : Type) (enc : TypeId × Value → H) (W : World) (base : Nat) (args : Array Value) (ds gs : List (DataW H)) (before : List MemPlace)
    (hval : ∀ (j : Nat) t v, Try.f8.params[j]? = some t → args[j]? = some v → Value.okWide Try.prog W .any base t v)
    (hW : DataW.Whole enc Try.prog Try.f8.params.toList Rows.unitGoesSpec.vars false W args.toList ds gs before) (hk : Rows.uptoSmall H (ds ++ gs) = true) :
    Calls Try.prog 8 args W fun e W' => ∃ v, e = .returned v ∧ Rows.unitGoesSpec.post enc Try.prog Try.f8 false true false false W args v W' := by
  have hW' := hW
  obtain ⟨p, q, hA0, hV, rfl, hfz, hnd⟩ := hW
  have hA : DataW.TrodAll enc Try.prog W 0 (fun _ => true) true Try.f8.params.toList args.toList ds p := hA0
  rw [Try.params8] at hA hval
  obtain ⟨v0, vs0, d0, ds0, p0, q0, hargs, rfl, rfl, h0, r0⟩ := trodAll_cons hA
  obtain ⟨v1, vs1, d1, ds1, p1, q1, rfl, rfl, rfl, h1, r1⟩ := trodAll_cons r0
  obtain ⟨v2, vs2, d2, ds2, p2, q2, rfl, rfl, rfl, h2, r2⟩ := trodAll_cons r1
  obtain ⟨rfl, rfl, rfl⟩ := trodAll_nil r2
  obtain rfl : args = #[v0, v1, v2] := by cases args; simp_all
  obtain ⟨rfl, rfl⟩ := trodVars_none hV
  simp only [List.append_nil] at hW' hk
  have hb : Rows.uptoBulkAll [d0, d1, d2] ≤ 1048576 := of_decide_eq_true hk
  simp only [Rows.uptoBulkAll] at hb
  obtain ⟨a0, rfl, rfl, rfl, w0⟩ := open_int Try.underlying5 (hval 0 5 v0 rfl rfl) h0
  have w1 : FormB W v1 := form_b Try.underlying22 Try.underlying23 Try.underlying3 cellsRow cellsInt (hval 1 22 v1 rfl rfl) h1 (by omega)
  have w2 : IntsN W v2 := ints_n Try.underlying23 Try.underlying3 cellsInt (hval 2 23 v2 rfl rfl) h2
  clear hA0
  have hlt := hW'.lt
  refine (walk a0 v1 v2 W w0 w1 w2).mono fun e W' ⟨he, hg⟩ => ?_
  subst he
  exact ⟨_, rfl, post_kept hW' hg (fun _ _ _ => (trodAll_cons_mk (shut_bool Try.underlying4 _) trodAll_mk0)) (fun sp hsp => (trodAll_cons_mk (shut_int Try.underlying5 w0) (trodAll_cons_mk (WideElems.Trod_stays laidOut (by kernel_rfl) (of_decide_eq_true (by kernel_rfl)) h1 (fun x hx => hg.same (hlt x (by first | exact hx | (simp; first | exact .inl hx | exact .inr hx | exact hx | exact .inr (.inl hx) | exact .inr (.inr hx))))) (fun x hx => hsp x (by first | exact hx | (simp; first | exact .inl hx | exact .inr hx | exact hx | exact .inr (.inl hx) | exact .inr (.inr hx))))) (trodAll_cons_mk (WideElems.Trod_stays laidOut (by kernel_rfl) (of_decide_eq_true (by kernel_rfl)) h2 (fun x hx => hg.same (hlt x (by first | exact hx | (simp; first | exact .inl hx | exact .inr hx | exact hx | exact .inr (.inl hx) | exact .inr (.inr hx))))) (fun x hx => hsp x (by first | exact hx | (simp; first | exact .inl hx | exact .inr hx | exact hx | exact .inr (.inl hx) | exact .inr (.inr hx))))) trodAll_mk0)))) (fun _ _ => rfl) (by first | rfl | simp)
    (ok_one (by kernel_rfl) rfl (okWide_bool_mk Try.underlying4 _))⟩
set_option maxRecDepth 100000 in
theorem lifted (os : Os) (started : os.Started) (H : Type) (enc : TypeId × Value → H) (F : Stop.Interp) :
    ReturnsInHanded {} Try.checked os 8 .any ((Rows.OpenSpec.upto Rows.unitGoesSpec).pre6 enc Try.prog Try.f8 Rows.unitGoesUptoRow.domain false) (((Rows.OpenSpec.upto Rows.unitGoesSpec).at F).post enc Try.prog Try.f8 false true false false) := by
  refine returnsInHanded_of_cond (C := Try.checked) (s := Rows.OpenSpec.upto Rows.unitGoesSpec) (k := Rows.uptoSmall) rfl own started (by kernel_rfl) Try.func8
    (OpenSpec.witness (enc := enc) (C := Try.checked) (s := Rows.OpenSpec.upto Rows.unitGoesSpec) (k := Rows.uptoSmall) rfl false ⟨#[], #[.int .u8 0, .slice none 0 0, .slice none 0 0], []⟩ 8 (by kernel_rfl) (by kernel_rfl) (by kernel_rfl)
      (x := ([.lit (.int .u8 0), .nil, .nil], [], [])) (by kernel_rfl) rfl (by kernel_rfl)) ?_
  intro W base args ds gs before hval hW _ hk _
  exact contract H enc W base args ds gs before hval hW hk

theorem proved : Rows.UnitGoesUptoSaid :=
  OpenClaim.holds_of_cond 8 Try.f8 rfl rfl rfl rfl rfl rfl rfl ⟨rfl, rfl, rfl, rfl, rfl⟩ rfl rfl rfl rfl rfl (by kernel_rfl) Try.func8 (by kernel_rfl)
    (of_decide_eq_true (by kernel_rfl)) (by unfold Func.isWrapper; first | (rw [if_pos (by decide +kernel)]; kernel_rfl) | (rw [if_neg (by decide +kernel)]; exact ⟨rfl, rfl⟩))
    (fun os started H enc _ F => lifted os started H enc F)
#print axioms proved
end Go.Proofs.Ytigomnbcalpohaa.unitGoes
