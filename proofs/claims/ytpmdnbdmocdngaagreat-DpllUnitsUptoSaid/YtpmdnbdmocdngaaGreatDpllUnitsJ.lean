/-
  The law DpllUnits, where the arguments hold together at most 1048576 values: what follows at once holds in each solution that is found; where it cannot be there is none. Its condition: that bound alone.
-/
import Derived.Test.YtpmdnbdmocdngaaGreatMh46
import Derived.Test.YtpmdnbdmocdngaaGreatMh47
import Derived.Test.YtpmdnbdmocdngaaGreatMh38
import Derived.Test.YtpmdnbdmocdngaaGreatMh39
import Derived.Test.YtpmdnbdmocdngaaGreatMh05
namespace Go.Proofs.YtpmdnbdmocdngaaGreat.dpllUnits
open Go.ChangeShapes Go.WideShapes Go.ChangeAt Go.RowKit
set_option linter.unusedVariables false

theorem units_up {n : Nat} (hn : n ≤ 65536) {f : List (List Int)} (ok : FOk n f) {t : List Int} (an : Ans n f (List.replicate n 0) (some t)) {m : List Bool} (hm : m.length = n) (he : evalM m f = true) : ∀ (i : Nat) (x : Int) (b : Bool), t[i]? = some x → m[i]? = some b → x ≠ 0 → (x == 1) = b := fun i x b hx hb h0 => by
  have h1 : m ∈ sols n f (List.replicate n 0) := mem_sols.2 ⟨hm, he, fun j y hy hy0 => by
    rw [List.getElem?_replicate] at hy
    split at hy
    · injection hy with hy; exact absurd hy.symm hy0
    · cases hy⟩
  rw [sols_same ok hn an] at h1
  have h2 := (mem_sols.1 h1).2.2 i x hx h0
  rw [u_at hb] at h2
  injection h2 with h2
  subst h2
  cases b <;> rfl
theorem units_no {n : Nat} (hn : n ≤ 65536) {f : List (List Int)} (ok : FOk n f) (an : Ans n f (List.replicate n 0) none) {m : List Bool} (hm : m.length = n) (he : evalM m f = true) : False := by
  have h1 : m ∈ sols n f (List.replicate n 0) := mem_sols.2 ⟨hm, he, fun j y hy hy0 => by
    rw [List.getElem?_replicate] at hy
    split at hy
    · injection hy with hy; exact absurd hy.symm hy0
    · cases hy⟩
  rw [sols_none ok hn an] at h1; cases h1
theorem ans_len {n : Nat} {f : List (List Int)} {m t : List Int} (an : Ans n f m (some t)) : t.length = n := an.1.1

set_option maxHeartbeats 6400000 in
set_option maxRecDepth 100000 in
theorem walk (a0 : Int) (v1 : Value) (w : World) (h0 : (Lit.int .u8 a0).wf = true) (h1 : FormB w v1) :
    Calls Tryz.prog 5 #[.int .u8 a0, v1] w fun e w' => e = .returned (.bool true) ∧ Below w.heap.size w w' := by
  obtain ⟨A, f, fcap, rfl, hf, hfl, hfc⟩ := h1
  obtain ⟨h3, h4⟩ := u8_wf h0
  obtain ⟨k0, hk, hk2⟩ := rem_to a0 h3 12 (by decide)
  have hk' : a0.tmod 12 = (k0 : Int) := hk
  obtain ⟨K, hK⟩ : ∃ K, 1 + k0 = K := ⟨_, rfl⟩
  have hKw : IntKind.i64.wrap (1 + (k0 : Int)) = (K : Int) := by rw [IntKind.wrap_i64]; omega
  have hK12 : K ≤ 12 := by omega
  have hK1 : (0 : Int) < (K : Int) := by omega
  have HF0 := Lib.hid hf
  have HFC := Lib.hid hfc
  clear hf hfc h0 hk hK
  go_enter Tryz.func5, Tryz.ntmps5
  go_wp2_with fail
  refine (awake6_any _).mono ?_
  rintro e w1 ⟨rfl, hb⟩
  have HB1 := Lib.hid hb
  have HF := Lib.hid (HF0.out.keep hb)
  clear hb
  have cs := Lib.hid (small_is A f fcap 500 w1 HF.out hfl HFC.out)
  have cm := Lib.hid (rmay_any (K : Int) A f fcap w1 (by unfold Wf; omega) HF.out (by omega))
  by_cases hs : (sizeM f : Int) ≤ 500
  · have hs2 := decide_eq_true hs
    rw [hs2] at cs
    cases hmay : mayM (K : Int) f with
    | false =>
      rw [hmay] at cm
      go_wp2_with (first | (go_at_call 9; ((with_reducible refine cs.out.mono ?_); rintro e w' ⟨rfl, rfl⟩)) | (go_at_call 11; ((with_reducible refine cm.out.mono ?_); rintro e w' ⟨rfl, rfl⟩)))
      go_ret
      exact ⟨rfl, HB1.out⟩
    | true =>
      rw [hmay] at cm
      have hlen : f.length ≤ 500 := by have := size_len f; omega
      have HFS : Hid (∀ c ∈ f, c.length ≤ 100000) := fun c hc => by have := size_le hc; omega
      have okf := (may_ok hmay HF.out.wf).2.2 K rfl
      have HOK := Lib.hid okf
      have HMAY := Lib.hid hmay
      have hmk : (Instr.makeSlice 36 (.int .i64 (K : Int)) (.int .i64 (K : Int))).run Tryz.prog w1 = .ok (.slice (some ⟨w1.heap.size, 0, none⟩) K K) (w1.alloc (.cells (madeCells #[.int .i64 0] K) 3)) := run_make_row' (P := Tryz.prog) 36 3 (.int .i64 0) 8 Tryz.underlying36 infoInt rfl .i64 .i64 K (by omega) (by omega) w1
      have HB2 := Lib.hid (Below.plus HB1.out (.cells (madeCells #[.int .i64 0] K) 3))
      have HF2 := Lib.hid (HF.out.keep (below_alloc w1 (.cells (madeCells #[.int .i64 0] K) 3)))
      have CU : Hid (Calls Tryz.prog 15 #[.int .i64 (K : Int), .slice A f.length fcap, .slice (some ⟨w1.heap.size, 0, none⟩) K K] (w1.alloc (.cells (madeCells #[.int .i64 0] K) 3)) (UnitPost K f (List.replicate K 0) (w1.alloc (.cells (madeCells #[.int .i64 0] K) 3)))) := by
        have := unit_any (n := K) (A := A) (M := some ⟨w1.heap.size, 0, none⟩) (f := f) (m := List.replicate K 0) (fcap := fcap) (mcap := K) (K : Int) (w1.alloc (.cells (madeCells #[.int .i64 0] K) 3)) HF2.out (by omega) (made_at w1 K rfl) (zeros_tv K) okf (by omega) (fun h => by cases h)
        rw [List.length_replicate] at this
        exact Lib.hid this
      generalize hw2 : w1.alloc (.cells (madeCells #[.int .i64 0] K) 3) = w2 at *
      clear hs hs2 hmay okf hw2
      go_wp2_with (first | (go_at_call 9; ((with_reducible refine cs.out.mono ?_); rintro e w' ⟨rfl, rfl⟩)) | (go_at_call 11; ((with_reducible refine cm.out.mono ?_); rintro e w' ⟨rfl, rfl⟩)))
      (with_reducible refine CU.out.mono ?_)
      rintro e w3 ⟨b3, h⟩
      have HB3 := Lib.hid (Below.on HB2.out b3)
      have HF3 := Lib.hid (HF2.out.keep b3)
      have CS := Lib.hid (solve_full (fcap := fcap) HF3.out HMAY.out (by omega) (by omega) HFS.out)
      clear b3 CU cs cm hmk
      rcases h with ⟨an, rfl⟩ | ⟨t, Bt, ct, an, rfl, hst⟩
      · have AN := Lib.hid an
        clear an
        go_wp2_with fail
        (with_reducible refine CS.out.mono ?_)
        rintro e w4 ⟨b4, ⟨m, g, rfl, _, hb, hm, he⟩ | ⟨rfl, h0⟩⟩
        · exact (units_no (by omega) HOK.out AN.out hm he).elim
        · have HB4 := Lib.hid (Below.on HB3.out b4)
          clear b4 h0 CS
          go_wp2_with fail
          refine wp_loop_rounds 1 ?_
          rw [rounds_succ]
          go_wp2_with fail
          go_ret
          exact ⟨rfl, HB4.out⟩
      · have AN := Lib.hid an
        have HST := Lib.hid hst
        clear an hst
        go_wp2_with fail
        (with_reducible refine CS.out.mono ?_)
        rintro e w4 ⟨b4, ⟨m, g, rfl, _, hb, hm, he⟩ | ⟨rfl, h0⟩⟩
        · have HB4 := Lib.hid (Below.on HB3.out b4)
          have HS4 := Lib.hid (HST.out.keep b4)
          have HM := Lib.hid (And.intro hm he)
          have HBM := Lib.hid hb
          have zg := lt_of_heap hb
          clear b4 CS hb hm he HST
          go_wp2_with fail
          go_loopw [11] (fun i wr => ∃ k : Nat, k ≤ K ∧ i = .int .i64 k ∧ Hid (Below w4.heap.size w4 wr)) (fun i _ => K - (intOf i).toNat)
          case atStart => exact ⟨0, by omega, rfl, Lib.hid (Below.refl _ _)⟩
          case round =>
            obtain ⟨k, hk, rfl, BW⟩ := hrel
            by_cases hlt : k < K
            · obtain ⟨x, hx⟩ : ∃ x, t[k]? = some x := ⟨_, List.getElem?_eq_getElem (by rw [ans_len AN.out]; exact hlt)⟩
              obtain ⟨b, hbk⟩ : ∃ b, m[k]? = some b := ⟨_, List.getElem?_eq_getElem (by rw [HM.out.1]; exact hlt)⟩
              obtain ⟨aT, rfl, hct⟩ := (HS4.out.keep BW.out).get k x hx
              have xg0 : w4.cell? ⟨g, k, none⟩ = some (.bool b) := (HBM.out.cell k).trans (by simp [hbk])
              have xg : wr.cell? ⟨g, k, none⟩ = some (.bool b) := (BW.out.cell (p := ⟨g, k, none⟩) zg).trans xg0
              have hag := units_up (by omega) HOK.out AN.out HM.out.1 HM.out.2 k x b hx hbk
              have htl : t.length = K := ans_len AN.out
              have hk1 : (k : Int) < (K : Int) := by omega
              have hk2 : (k : Int) < (t.length : Int) := by omega
              clear hx hbk htl xg0
              by_cases h0 : x = 0
              · have e1 : (x != 0) = false := by simpa using h0
                clear hag h0
                go_wp2_with fail
                go_quiet (fail)
                have BW2 := Lib.hid (Below.on BW.out (Below.draws (Below.refl wr.heap.size wr) nq))
                go_wp2_with fail
                go_roundw
                case rel => exact ⟨k + 1, by omega, by go_num, BW2⟩
                case measure => simp [intOf]; omega
              · have e1 : (x != 0) = true := by simpa using h0
                have e2 : (x == 1) = b := hag h0
                have e3 : (b != b) = false := by cases b <;> rfl
                clear hag h0
                go_wp2_with fail
                go_quiet (fail)
                have BW2 := Lib.hid (Below.on BW.out (Below.draws (Below.refl wr.heap.size wr) nq))
                go_wp2_with fail
                go_roundw
                case rel => exact ⟨k + 1, by omega, by go_num, BW2⟩
                case measure => simp [intOf]; omega
            · have hge : ¬ (k : Int) < (K : Int) := by omega
              have HB5 := Lib.hid (Below.on HB4.out BW.out)
              go_wp2_with fail
              go_ret
              exact ⟨rfl, HB5.out⟩
        · have HB4 := Lib.hid (Below.on HB3.out b4)
          clear b4 h0 CS HST
          go_wp2_with fail
          refine wp_loop_rounds 1 ?_
          rw [rounds_succ]
          go_wp2_with fail
          go_ret
          exact ⟨rfl, HB4.out⟩
  · have hs2 := decide_eq_false hs
    rw [hs2] at cs
    go_wp2_with (go_at_call 9; ((with_reducible refine cs.out.mono ?_); rintro e w' ⟨rfl, rfl⟩))
    go_ret
    exact ⟨rfl, HB1.out⟩

set_option maxRecDepth 100000 in
theorem contract (H : Type) (enc : TypeId × Value → H) (W : World) (base : Nat) (args : Array Value) (ds gs : List (DataW H)) (before : List MemPlace)
    (hval : ∀ (j : Nat) t v, Tryz.f5.params[j]? = some t → args[j]? = some v → Value.okWide Tryz.prog W .any base t v)
    (hW : DataW.Whole enc Tryz.prog Tryz.f5.params.toList Rows.dpllUnitsSpec.vars false W args.toList ds gs before) (hk : Rows.uptoSmall H (ds ++ gs) = true) :
    Calls Tryz.prog 5 args W fun e W' => ∃ v, e = .returned v ∧ Rows.dpllUnitsSpec.post enc Tryz.prog Tryz.f5 false true false false W args v W' := by
  have hW' := hW
  obtain ⟨p, q, hA0, hV, rfl, hfz, hnd⟩ := hW
  have hA : DataW.TrodAll enc Tryz.prog W 0 (fun _ => true) true Tryz.f5.params.toList args.toList ds p := hA0
  rw [Tryz.params5] at hA hval
  obtain ⟨v0, vs0, d0, ds0, p0, q0, hargs, rfl, rfl, h0, r0⟩ := trodAll_cons hA
  obtain ⟨v1, vs1, d1, ds1, p1, q1, rfl, rfl, rfl, h1, r1⟩ := trodAll_cons r0
  obtain ⟨rfl, rfl, rfl⟩ := trodAll_nil r1
  obtain rfl : args = #[v0, v1] := by cases args; simp_all
  obtain ⟨rfl, rfl⟩ := trodVars_none hV
  simp only [List.append_nil] at hW' hk
  have hb : Rows.uptoBulkAll [d0, d1] ≤ 1048576 := of_decide_eq_true hk
  simp only [Rows.uptoBulkAll] at hb
  obtain ⟨a0, rfl, rfl, rfl, w0⟩ := open_int Tryz.underlying5 (hval 0 5 v0 rfl rfl) h0
  have w1 : FormB W v1 := form_b Tryz.underlying22 Tryz.underlying36 Tryz.underlying3 cellsRow cellsInt (hval 1 22 v1 rfl rfl) h1 (by omega)
  clear hA0
  have hlt := hW'.lt
  refine (walk a0 v1 W w0 w1).mono fun e W' ⟨he, hg⟩ => ?_
  subst he
  exact ⟨_, rfl, post_kept hW' hg (fun _ _ _ => (trodAll_cons_mk (shut_bool Tryz.underlying4 _) trodAll_mk0)) (fun sp hsp => (trodAll_cons_mk (shut_int Tryz.underlying5 w0) (trodAll_cons_mk (WideElems.Trod_stays laidOut (by kernel_rfl) (of_decide_eq_true (by kernel_rfl)) h1 (fun x hx => hg.same (hlt x (by first | exact hx | (simp; first | exact .inl hx | exact .inr hx | exact hx | exact .inr (.inl hx) | exact .inr (.inr hx))))) (fun x hx => hsp x (by first | exact hx | (simp; first | exact .inl hx | exact .inr hx | exact hx | exact .inr (.inl hx) | exact .inr (.inr hx))))) trodAll_mk0))) (fun _ _ => rfl) (by first | rfl | simp)
    (ok_one (by kernel_rfl) rfl (okWide_bool_mk Tryz.underlying4 _))⟩
set_option maxRecDepth 100000 in
theorem lifted (os : Os) (started : os.Started) (H : Type) (enc : TypeId × Value → H) (F : Stop.Interp) :
    ReturnsInHanded {} Tryz.checked os 5 .any ((Rows.OpenSpec.upto Rows.dpllUnitsSpec).pre6 enc Tryz.prog Tryz.f5 Rows.dpllUnitsUptoRow.domain false) (((Rows.OpenSpec.upto Rows.dpllUnitsSpec).at F).post enc Tryz.prog Tryz.f5 false true false false) := by
  refine returnsInHanded_of_cond (C := Tryz.checked) (s := Rows.OpenSpec.upto Rows.dpllUnitsSpec) (k := Rows.uptoSmall) rfl own started (by kernel_rfl) Tryz.func5
    (OpenSpec.witness (enc := enc) (C := Tryz.checked) (s := Rows.OpenSpec.upto Rows.dpllUnitsSpec) (k := Rows.uptoSmall) rfl false ⟨#[], #[.int .u8 0, .slice none 0 0], []⟩ 8 (by kernel_rfl) (by kernel_rfl) (by kernel_rfl)
      (x := ([.lit (.int .u8 0), .nil], [], [])) (by kernel_rfl) rfl (by kernel_rfl)) ?_
  intro W base args ds gs before hval hW _ hk _
  exact contract H enc W base args ds gs before hval hW hk

theorem proved : Rows.DpllUnitsUptoSaid :=
  OpenClaim.holds_of_cond 5 Tryz.f5 rfl rfl rfl rfl rfl rfl rfl ⟨rfl, rfl, rfl, rfl, rfl⟩ rfl rfl rfl rfl rfl (by kernel_rfl) Tryz.func5 (by kernel_rfl)
    (of_decide_eq_true (by kernel_rfl)) (by unfold Func.isWrapper; first | (rw [if_pos (by decide +kernel)]; kernel_rfl) | (rw [if_neg (by decide +kernel)]; exact ⟨rfl, rfl⟩))
    (fun os started H enc _ F => lifted os started H enc F)
#print axioms proved
end Go.Proofs.YtpmdnbdmocdngaaGreat.dpllUnits
