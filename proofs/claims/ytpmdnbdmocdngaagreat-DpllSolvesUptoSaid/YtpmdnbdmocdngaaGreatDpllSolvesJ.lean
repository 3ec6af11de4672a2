/-
  The law DpllSolves, where the arguments hold together at most 1048576 values: any formula of few variables is solved rightly, with a solution; how many there are; by a budget too small it may be unknown, never wrong. Its condition: that bound alone.
-/
import Derived.Test.YtpmdnbdmocdngaaGreatMh46
import Derived.Test.YtpmdnbdmocdngaaGreatMh53
import Derived.Test.YtpmdnbdmocdngaaGreatMh38
import Derived.Test.YtpmdnbdmocdngaaGreatMh39
import Derived.Test.YtpmdnbdmocdngaaGreatMh05
namespace Go.Proofs.YtpmdnbdmocdngaaGreat.dpllSolves
open Go.ChangeShapes Go.WideShapes Go.ChangeAt Go.RowKit
set_option linter.unusedVariables false

theorem unknown_lt {n : Nat} {b : Int} {X : Nat} (hX : 2 ^ n = X) (hn : n ≤ 12) (hb : 0 ≤ b) (h : grant n b ≠ 9223372036854775807) : ¬ (X : Int) ≤ b := fun hle => by
  refine h (grant_max ?_)
  have h1 : (min (n : Int) 40).toNat = n := by omega
  rw [h1]
  have e : ((2 ^ n : Nat) : Int) = (2 : Int) ^ n := Int.natCast_pow 2 n
  have h3 : (0 : Int) < 2 ^ n := Int.pow_pos (by decide)
  have h4 : (1 : Int) ≤ b / 2 ^ n := (Int.le_ediv_iff_mul_le h3).2 (by rw [← e, hX]; omega)
  omega
theorem many_no {n : Nat} {f : List (List Int)} (h : ∀ m : List Bool, m.length = n → evalM m f = false) : many n f = 0 := by
  unfold many
  rw [List.filter_eq_nil_iff.2 fun m hm => by rw [h m (mem_allB.1 hm)]; decide]
  rfl

set_option maxHeartbeats 6400000 in
set_option maxRecDepth 100000 in
theorem walk (a0 : Int) (v1 : Value) (a2 : Int) (w : World) (h0 : (Lit.int .i64 a0).wf = true) (h1 : FormB w v1) (h2 : (Lit.int .i64 a2).wf = true) :
    Calls Tryz.prog 3 #[.int .i64 a0, v1, .int .i64 a2] w fun e w' => e = .returned (.bool true) ∧ Below w.heap.size w w' := by
  obtain ⟨A, f, fcap, rfl, hf, hfl, hfc⟩ := h1
  have hw0 : Wf a0 := wf_of h0
  have hw2 : Wf a2 := wf_of h2
  have HF0 := Lib.hid hf
  have HFC := Lib.hid hfc
  clear hf hfc h0 h2
  go_enter Tryz.func3, Tryz.ntmps3
  go_wp2_with fail
  refine (awake6_any _).mono ?_
  rintro e w1 ⟨rfl, hb⟩
  have HB1 := Lib.hid hb
  have HF := Lib.hid (HF0.out.keep hb)
  clear hb
  have cs := Lib.hid (small_is A f fcap 1000 w1 HF.out hfl HFC.out)
  have cm := Lib.hid (rmay_any a0 A f fcap w1 hw0 HF.out (by omega))
  by_cases hs : (sizeM f : Int) ≤ 1000
  · have hs2 := decide_eq_true hs
    rw [hs2] at cs
    by_cases h12 : 12 < a0
    · go_wp2_with (go_at_call 9; ((with_reducible refine cs.out.mono ?_); rintro e w' ⟨rfl, rfl⟩))
      go_ret
      exact ⟨rfl, HB1.out⟩
    · have hlen : f.length ≤ 1000 := by have := size_len f; omega
      have HFS : Hid (∀ c ∈ f, c.length ≤ 100000) := fun c hc => by have := size_le hc; omega
      clear hs hs2
      by_cases hno : a2 < 0 ∨ mayM a0 f = false
      · have CS := Lib.hid (solve_no (fcap := fcap) a0 a2 hw0 HF.out (by omega) hno)
        cases hmay : mayM a0 f with
        | false =>
          rw [hmay] at cm
          clear hno hmay
          go_wp2_with (first | (go_at_call 9; ((with_reducible refine cs.out.mono ?_); rintro e w' ⟨rfl, rfl⟩)) | (go_at_call 11; ((with_reducible refine cm.out.mono ?_); rintro e w' ⟨rfl, rfl⟩)) | (go_at_call 10; ((with_reducible refine CS.out.mono ?_); rintro e w' ⟨rfl, rfl⟩)))
          go_ret
          exact ⟨rfl, HB1.out⟩
        | true =>
          have hneg : a2 < 0 := hno.resolve_right (by rw [hmay]; decide)
          rw [hmay] at cm
          clear hno hmay
          go_wp2_with (first | (go_at_call 9; ((with_reducible refine cs.out.mono ?_); rintro e w' ⟨rfl, rfl⟩)) | (go_at_call 11; ((with_reducible refine cm.out.mono ?_); rintro e w' ⟨rfl, rfl⟩)) | (go_at_call 10; ((with_reducible refine CS.out.mono ?_); rintro e w' ⟨rfl, rfl⟩)))
          go_ret
          exact ⟨rfl, HB1.out⟩
      · have hb0 : ¬ a2 < 0 := fun h => hno (.inl h)
        have hmay : mayM a0 f = true := by cases h : mayM a0 f with | true => rfl | false => exact absurd (.inr h) hno
        have ha0 := (may_ok hmay HF.out.wf).1
        obtain ⟨n, rfl⟩ := Int.eq_ofNat_of_zero_le ha0
        have hn12 : n ≤ 12 := by omega
        have hb2 : a2 ≤ 9223372036854775807 := by unfold Wf at hw2; omega
        have HMAY := Lib.hid hmay
        rw [hmay] at cm
        have CS := Lib.hid (solve_any (f0 := 1000) (fcap := fcap) a2 HF.out hmay (by omega) (by omega) (by omega) HFS.out (by omega) hb2 (start_ok_any (by omega) (by omega)))
        obtain ⟨X, hX⟩ : ∃ X, 2 ^ n = X := ⟨_, rfl⟩
        have hXb : X ≤ 4096 := by rw [← hX]; exact Nat.pow_le_pow_right (n := 2) (by decide) hn12
        have hXw : IntKind.i64.wrap ((2 : Int) ^ n) = (X : Int) := by
          rw [← hX, IntKind.wrap_i64]
          have e : ((2 ^ n : Nat) : Int) = (2 : Int) ^ n := Int.natCast_pow 2 n
          rw [← e, hX]; omega
        have HX := Lib.hid hX
        clear hno hmay ha0 hX h12 hw0
        go_wp2_with (go_at_call 9; ((with_reducible refine cs.out.mono ?_); rintro e w' ⟨rfl, rfl⟩))
        (with_reducible refine CS.out.mono ?_)
        rintro e w2 ⟨b2, h⟩
        have HB2 := Lib.hid (Below.on HB1.out b2)
        have HF2 := Lib.hid (HF.out.keep b2)
        have cm2 := Lib.hid (rmay_any (n : Int) A f fcap w2 (by unfold Wf; omega) HF2.out (by omega))
        rw [HMAY.out] at cm2
        have CR := Lib.hid (rsat_any (fcap := fcap) HF2.out hn12 (by omega))
        have hml : many n f ≤ 4096 := Nat.le_trans (many_le n f) (by rw [HX.out]; exact hXb)
        clear b2 CS cm cs
        rcases h with ⟨m, g, rfl, _, hb, hm, he⟩ | ⟨rfl, h0⟩ | ⟨rfl, hu, hne, -⟩
        · have HE := Lib.hid (And.intro hb (And.intro hm he))
          have hpos := many_pos hm he
          clear hb hm he
          go_wp2_with (first | (go_at_call 11; ((with_reducible refine cm2.out.mono ?_); rintro e w' ⟨rfl, rfl⟩)))
          (with_reducible refine CR.out.mono ?_)
          rintro e w3 ⟨rfl, b3⟩
          have HB3 := Lib.hid (Below.on HB2.out b3)
          have HF3 := Lib.hid (HF2.out.keep b3)
          have HS3 : Hid (SeqAt Value.bool w3 (some ⟨g, 0, none⟩) m) := Lib.hid ((show SeqAt Value.bool w2 (some ⟨g, 0, none⟩) m from ⟨fun i z hz => ⟨_, rfl, by rw [add_at]; exact (HE.out.1.cell i).trans (by simp [hz])⟩⟩).keep b3)
          have CE := Lib.hid (by
            have h := reval_any A f fcap (some ⟨g, 0, none⟩) m n w3 HF3.out (by omega) HS3.out (by rw [HE.out.2.1]; omega)
            rw [HE.out.2.1, HE.out.2.2] at h; exact h)
          have CC := Lib.hid (ccount_any (fcap := fcap) a2 HF3.out HMAY.out (by omega) (by omega) HFS.out (by omega) hb2)
          clear b3 CR cm2
          obtain ⟨Y, hY⟩ : ∃ Y, many n f = Y := ⟨_, rfl⟩
          rw [hY] at hpos hml
          rw [hY]
          have HY := Lib.hid hY
          clear hY
          go_wp2_with (first | (go_at_call 13; ((with_reducible refine CE.out.mono ?_); rintro e w' ⟨rfl, rfl⟩)))
          (with_reducible refine CC.out.mono ?_)
          rintro e w4 ⟨rfl, b4⟩
          have HB4 := Lib.hid (Below.on HB3.out b4)
          have hmn : min (Y : Int) a2 = min a2 (Y : Int) := by omega
          rw [HY.out]
          clear b4 CC HY
          go_wp2_with fail
          go_ret
          exact ⟨rfl, HB4.out⟩
        · have hz := many_no h0
          rw [hz] at CR
          clear h0
          go_wp2_with (first | (go_at_call 11; ((with_reducible refine cm2.out.mono ?_); rintro e w' ⟨rfl, rfl⟩)))
          (with_reducible refine CR.out.mono ?_)
          rintro e w3 ⟨rfl, b3⟩
          have HB3 := Lib.hid (Below.on HB2.out b3)
          have CC := Lib.hid (ccount_any (fcap := fcap) a2 (HF2.out.keep b3) HMAY.out (by omega) (by omega) HFS.out (by omega) hb2)
          have HZ := Lib.hid hz
          clear b3 CR cm2 hz
          go_wp2_with fail
          (with_reducible refine CC.out.mono ?_)
          rintro e w4 ⟨rfl, b4⟩
          have HB4 := Lib.hid (Below.on HB3.out b4)
          have hm1 : min (0 : Int) a2 = 0 := by omega
          have hm2 : min a2 ((0 : Nat) : Int) = 0 := by omega
          rw [HZ.out, hm2]
          clear b4 CC
          go_wp2_with fail
          go_ret
          exact ⟨rfl, HB4.out⟩
        · have hlt := unknown_lt HX.out hn12 (by omega) hu
          have hfe : ((f.length : Int) == 0) = false := by
            cases f with
            | nil => exact absurd rfl hne
            | cons c r => simp; omega
          clear hu hne
          go_wp2_with (first | (go_at_call 11; ((with_reducible refine cm2.out.mono ?_); rintro e w' ⟨rfl, rfl⟩)))
          (with_reducible refine CR.out.mono ?_)
          rintro e w3 ⟨rfl, b3⟩
          have HB3 := Lib.hid (Below.on HB2.out b3)
          have CC := Lib.hid (ccount_any (fcap := fcap) a2 (HF2.out.keep b3) HMAY.out (by omega) (by omega) HFS.out (by omega) hb2)
          clear b3 CR cm2
          obtain ⟨Y, hY⟩ : ∃ Y, many n f = Y := ⟨_, rfl⟩
          rw [hY] at hml
          rw [hY]
          have HY := Lib.hid hY
          clear hY
          go_wp2_with fail
          (with_reducible refine CC.out.mono ?_)
          rintro e w4 ⟨rfl, b4⟩
          have HB4 := Lib.hid (Below.on HB3.out b4)
          have hmn : min (Y : Int) a2 = min a2 (Y : Int) := by omega
          rw [HY.out]
          clear b4 CC HY
          go_wp2_with fail
          go_ret
          exact ⟨rfl, HB4.out⟩
  · have hs2 := decide_eq_false hs
    rw [hs2] at cs
    go_wp2_with (go_at_call 9; ((with_reducible refine cs.out.mono ?_); rintro e w' ⟨rfl, rfl⟩))
    go_ret
    exact ⟨rfl, HB1.out⟩

set_option maxRecDepth 100000 in
theorem contract (H : Type) (enc : TypeId × Value → H) (W : World) (base : Nat) (args : Array Value) (ds gs : List (DataW H)) (before : List MemPlace)
    (hval : ∀ (j : Nat) t v, Tryz.f3.params[j]? = some t → args[j]? = some v → Value.okWide Tryz.prog W .any base t v)
    (hW : DataW.Whole enc Tryz.prog Tryz.f3.params.toList Rows.dpllSolvesSpec.vars false W args.toList ds gs before) (hk : Rows.uptoSmall H (ds ++ gs) = true) :
    Calls Tryz.prog 3 args W fun e W' => ∃ v, e = .returned v ∧ Rows.dpllSolvesSpec.post enc Tryz.prog Tryz.f3 false true false false W args v W' := by
  have hW' := hW
  obtain ⟨p, q, hA0, hV, rfl, hfz, hnd⟩ := hW
  have hA : DataW.TrodAll enc Tryz.prog W 0 (fun _ => true) true Tryz.f3.params.toList args.toList ds p := hA0
  rw [Tryz.params3] at hA hval
  obtain ⟨v0, vs0, d0, ds0, p0, q0, hargs, rfl, rfl, h0, r0⟩ := trodAll_cons hA
  obtain ⟨v1, vs1, d1, ds1, p1, q1, rfl, rfl, rfl, h1, r1⟩ := trodAll_cons r0
  obtain ⟨v2, vs2, d2, ds2, p2, q2, rfl, rfl, rfl, h2, r2⟩ := trodAll_cons r1
  obtain ⟨rfl, rfl, rfl⟩ := trodAll_nil r2
  obtain rfl : args = #[v0, v1, v2] := by cases args; simp_all
  obtain ⟨rfl, rfl⟩ := trodVars_none hV
  simp only [List.append_nil] at hW' hk
  have hb : Rows.uptoBulkAll [d0, d1, d2] ≤ 1048576 := of_decide_eq_true hk
  simp only [Rows.uptoBulkAll] at hb
  obtain ⟨a0, rfl, rfl, rfl, w0⟩ := open_int Tryz.underlying3 (hval 0 3 v0 rfl rfl) h0
  have w1 : FormB W v1 := form_b Tryz.underlying22 Tryz.underlying36 Tryz.underlying3 cellsRow cellsInt (hval 1 22 v1 rfl rfl) h1 (by omega)
  obtain ⟨a2, rfl, rfl, rfl, w2⟩ := open_int Tryz.underlying3 (hval 2 3 v2 rfl rfl) h2
  clear hA0
  have hlt := hW'.lt
  refine (walk a0 v1 a2 W w0 w1 w2).mono fun e W' ⟨he, hg⟩ => ?_
  subst he
  exact ⟨_, rfl, post_kept hW' hg (fun _ _ _ => (trodAll_cons_mk (shut_bool Tryz.underlying4 _) trodAll_mk0)) (fun sp hsp => (trodAll_cons_mk (shut_int Tryz.underlying3 w0) (trodAll_cons_mk (WideElems.Trod_stays laidOut (by kernel_rfl) (of_decide_eq_true (by kernel_rfl)) h1 (fun x hx => hg.same (hlt x (by first | exact hx | (simp; first | exact .inl hx | exact .inr hx | exact hx | exact .inr (.inl hx) | exact .inr (.inr hx))))) (fun x hx => hsp x (by first | exact hx | (simp; first | exact .inl hx | exact .inr hx | exact hx | exact .inr (.inl hx) | exact .inr (.inr hx))))) (trodAll_cons_mk (shut_int Tryz.underlying3 w2) trodAll_mk0)))) (fun _ _ => rfl) (by first | rfl | simp)
    (ok_one (by kernel_rfl) rfl (okWide_bool_mk Tryz.underlying4 _))⟩
set_option maxRecDepth 100000 in
theorem lifted (os : Os) (started : os.Started) (H : Type) (enc : TypeId × Value → H) (F : Stop.Interp) :
    ReturnsInHanded {} Tryz.checked os 3 .any ((Rows.OpenSpec.upto Rows.dpllSolvesSpec).pre6 enc Tryz.prog Tryz.f3 Rows.dpllSolvesUptoRow.domain false) (((Rows.OpenSpec.upto Rows.dpllSolvesSpec).at F).post enc Tryz.prog Tryz.f3 false true false false) := by
  refine returnsInHanded_of_cond (C := Tryz.checked) (s := Rows.OpenSpec.upto Rows.dpllSolvesSpec) (k := Rows.uptoSmall) rfl own started (by kernel_rfl) Tryz.func3
    (OpenSpec.witness (enc := enc) (C := Tryz.checked) (s := Rows.OpenSpec.upto Rows.dpllSolvesSpec) (k := Rows.uptoSmall) rfl false ⟨#[], #[.int .i64 0, .slice none 0 0, .int .i64 0], []⟩ 8 (by kernel_rfl) (by kernel_rfl) (by kernel_rfl)
      (x := ([.lit (.int .i64 0), .nil, .lit (.int .i64 0)], [], [])) (by kernel_rfl) rfl (by kernel_rfl)) ?_
  intro W base args ds gs before hval hW _ hk _
  exact contract H enc W base args ds gs before hval hW hk

theorem proved : Rows.DpllSolvesUptoSaid :=
  OpenClaim.holds_of_cond 3 Tryz.f3 rfl rfl rfl rfl rfl rfl rfl ⟨rfl, rfl, rfl, rfl, rfl⟩ rfl rfl rfl rfl rfl (by kernel_rfl) Tryz.func3 (by kernel_rfl)
    (of_decide_eq_true (by kernel_rfl)) (by unfold Func.isWrapper; first | (rw [if_pos (by decide +kernel)]; kernel_rfl) | (rw [if_neg (by decide +kernel)]; exact ⟨rfl, rfl⟩))
    (fun os started H enc _ F => lifted os started H enc F)
#print axioms proved
end Go.Proofs.YtpmdnbdmocdngaaGreat.dpllSolves
