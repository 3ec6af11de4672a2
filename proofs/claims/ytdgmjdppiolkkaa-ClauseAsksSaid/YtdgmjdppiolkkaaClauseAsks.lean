/-
  The law ClauseAsks: for any formula and any truth values: whether it may be, holds, what stands in it one way alone. No condition.
-/
import Derived.Test.YtdgmjdppiolkkaaClauY
import Derived.Test.YtdgmjdppiolkkaaClauYb
import Derived.ProofKit
namespace Go.Proofs.Ytdgmjdppiolkkaa.clauseAsks
open Go.ChangeShapes Go.WideShapes Go.ChangeAt Go.RowKit
set_option linter.unusedVariables false

theorem walk (n : Int) (v1 v2 : Value) (w : World) (h0 : (Lit.int .i64 n).wf = true) (h1 : FormIn w v1) (h2 : BoolsIn w v2) :
    Calls Try.prog 3 #[.int .i64 n, v1, v2] w fun e w' => e = .returned (.bool true) ∧ Below w.heap.size w w' := by
  obtain ⟨A, f, cap, rfl, hf, hl⟩ := h1
  obtain ⟨B, m, mcap, rfl, hm, hml⟩ := h2
  have hwn := wf_of h0
  by_cases hc : (1000 : Int) < (m.length : Int)
  · have HF := Lib.hid hf
    clear hf hm h0 hwn
    go_enter Try.func3, Try.ntmps3
    go_wp2_with fail
    refine (awake_any _).mono ?_
    rintro e w1 ⟨rfl, hb⟩
    have HF1 := Lib.hid (HF.out.keep hb)
    have HB := Lib.hid hb
    clear hb
    go_wp2_with fail
    refine (small_any A f cap 3000 w1 HF1.out hl).mono ?_
    rintro e w2 ⟨b, rfl, rfl⟩
    cases b
    all_goals
      go_wp2_with fail
      go_ret
      exact ⟨rfl, HB.out⟩
  · have hm' : (m.length : Int) ≤ 1000 := by omega
    cases ht : mayM n f with
    | false => exact walk_no n A f cap B m mcap w hwn (Lib.hid hf) hl (Lib.hid hm) hml hm' (Lib.hid ht)
    | true =>
      have hb : 0 ≤ n ∧ n ≤ 65536 := by
        unfold mayM at ht; rw [Bool.and_eq_true, decide_eq_true_iff] at ht; exact ht.1
      obtain ⟨N, rfl⟩ := Int.eq_ofNat_of_zero_le hb.1
      by_cases h3 : (N : Int) ≤ 300
      · exact walk_small N A f cap B m mcap w (by omega) h3 (Lib.hid hf) hl (Lib.hid hm) hml hm' (Lib.hid ht)
      · exact walk_big N A f cap B m mcap w (by omega) (by omega) (Lib.hid hf) hl (Lib.hid hm) hml hm' (Lib.hid ht)

theorem own : ownKnob Try.prog.godebug = none := by kernel_rfl
theorem cellsInt : Try.prog.cellsOf 3 = 1 := by kernel_rfl
theorem cellsBool : Try.prog.cellsOf 4 = 1 := by kernel_rfl
theorem cellsRow : Try.prog.cellsOf 27 = 1 := by kernel_rfl
set_option maxRecDepth 100000 in
theorem lifted (os : Os) (started : os.Started) (H : Type) (enc : TypeId × Value → H) :
    ReturnsInHanded {} Try.checked os 3 .any (Rows.clauseAsksSpec.pre6 enc Try.prog Try.f3 Rows.clauseAsksRow.domain false) (Rows.clauseAsksSpec.post enc Try.prog Try.f3 false true false false) := by
  refine returnsInHanded_of_change (C := Try.checked) own started (by kernel_rfl) Try.func3
    (ChangeSpec.witness6 (enc := enc) (C := Try.checked) false ⟨#[], #[.int .i64 0, .slice none 0 0, .slice none 0 0], []⟩ 8 (by kernel_rfl) (by kernel_rfl) (by kernel_rfl) (by kernel_rfl)) ?_
  intro W base args ds gs before hval0 hW hcnd _
  have hval : ∀ (j : Nat) t v, Try.f3.params[j]? = some t → args[j]? = some v → Value.okWide Try.prog W .any base t v := hval0
  have hW' := hW
  obtain ⟨p, q, hA0, hV, rfl, hfz, hnd⟩ := hW
  have hA : DataW.TrodAll enc Try.prog W 0 (fun _ => true) true Try.f3.params.toList args.toList ds p := hA0
  rw [Try.params3] at hA hval
  obtain ⟨v0, vs0, d0, ds0, p0, q0, hargs, rfl, rfl, h0, r0⟩ := trodAll_cons hA
  obtain ⟨v1, vs1, d1, ds1, p1, q1, rfl, rfl, rfl, h1, r1⟩ := trodAll_cons r0
  obtain ⟨v2, vs2, d2, ds2, p2, q2, rfl, rfl, rfl, h2, r2⟩ := trodAll_cons r1
  obtain ⟨rfl, rfl, rfl⟩ := trodAll_nil r2
  obtain rfl : args = #[v0, v1, v2] := by cases args; simp_all
  obtain ⟨rfl, rfl⟩ := trodVars_none hV
  obtain ⟨a0, rfl, rfl, rfl, w0⟩ := open_int Try.underlying3 (hval 0 3 v0 rfl rfl) h0
  have w1 : FormIn W v1 := form_open Try.underlying22 Try.underlying27 Try.underlying3 cellsRow cellsInt (hval 1 22 v1 rfl rfl) h1
  have w2 : BoolsIn W v2 := bools_open Try.underlying23 Try.underlying4 cellsBool (hval 2 23 v2 rfl rfl) h2
  clear hA0 hval0
  simp only [List.append_nil] at hW'
  have hlt := hW'.lt
  refine (walk a0 v1 v2 W w0 w1 w2).mono fun e W' ⟨he, hg⟩ => ?_
  subst he
  exact ⟨_, rfl, post_kept hW' hg (fun _ _ _ => (trodAll_cons_mk (shut_bool Try.underlying4 _) trodAll_mk0)) (fun sp hsp => (trodAll_cons_mk (shut_int Try.underlying3 w0) (trodAll_cons_mk (WideElems.Trod_stays laidOut (by kernel_rfl) (of_decide_eq_true (by kernel_rfl)) h1 (fun x hx => hg.same (hlt x (by first | exact hx | (simp; first | exact .inl hx | exact .inr hx | exact hx | exact .inr (.inl hx) | exact .inr (.inr hx))))) (fun x hx => hsp x (by first | exact hx | (simp; first | exact .inl hx | exact .inr hx | exact hx | exact .inr (.inl hx) | exact .inr (.inr hx))))) (trodAll_cons_mk (WideElems.Trod_stays laidOut (by kernel_rfl) (of_decide_eq_true (by kernel_rfl)) h2 (fun x hx => hg.same (hlt x (by first | exact hx | (simp; first | exact .inl hx | exact .inr hx | exact hx | exact .inr (.inl hx) | exact .inr (.inr hx))))) (fun x hx => hsp x (by first | exact hx | (simp; first | exact .inl hx | exact .inr hx | exact hx | exact .inr (.inl hx) | exact .inr (.inr hx))))) trodAll_mk0)))) (fun _ _ => rfl) (by simp)
    (ok_one (by kernel_rfl) rfl (okWide_bool_mk Try.underlying4 _))⟩

theorem over : Rows.clauseAsksRow.holds Try.pinned (OpenSpec.ofChange Rows.clauseAsksSpec) :=
  OpenClaim.holds_of_wide 3 Try.f3 rfl rfl rfl rfl rfl rfl rfl ⟨rfl, rfl, rfl, rfl, rfl⟩ rfl rfl rfl rfl rfl (by kernel_rfl) Try.func3 (by kernel_rfl)
    (of_decide_eq_true (by kernel_rfl)) (by unfold Func.isWrapper; first | (rw [if_pos (by decide +kernel)]; kernel_rfl) | (rw [if_neg (by decide +kernel)]; exact ⟨rfl, rfl⟩))
    (fun os started H enc _ => lifted os started H enc)

theorem proved : Rows.ClauseAsksSaid :=
  over
#print axioms proved
end Go.Proofs.Ytdgmjdppiolkkaa.clauseAsks
