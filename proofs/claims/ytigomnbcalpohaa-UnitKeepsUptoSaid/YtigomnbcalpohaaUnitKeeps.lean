/-
  The law UnitKeeps, where the arguments hold together at most 1048576 values: what follows takes no solution away: those that agree with what was assigned agree with all of it. Its condition: that bound alone.
-/
import Derived.Test.YtigomnbcalpohaaUnitB
import Derived.Deep.OwnRows
import Derived.Laws.BitsAllLaws
import Derived.Laws.ShiftsVarLaws
import Derived.Test.YtigomnbcalpohaaUnitC
import Derived.Test.YtigomnbcalpohaaUnitX
namespace Go.Proofs.Ytigomnbcalpohaa.unitKeeps
open Go.ChangeShapes Go.WideShapes Go.ChangeAt Go.RowKit
set_option linter.unusedVariables false

theorem wrap_u64 (i : Nat) (h : i < 18446744073709551616) : IntKind.u64.wrap (i : Int) = (i : Int) := by rw [IntKind.wrap_u64]; omega
theorem tv_unk {n : Nat} {t : List Int} (h : TV n t) : t.any unk = false := by
  rw [List.any_eq_false]
  intro x hx
  obtain ⟨i, hi⟩ := List.mem_iff_getElem?.1 hx
  have := h.2 i x hi
  unfold unk; simp; omega
theorem u8_wf {a : Int} (h : (Lit.int .u8 a).wf = true) : 0 ≤ a ∧ a ≤ 255 := by
  simp [Lit.wf, IntKind.min, IntKind.max, IntKind.signed, IntKind.bits] at h
  omega
theorem u16_wf {a : Int} (h : (Lit.int .u16 a).wf = true) : 0 ≤ a ∧ a ≤ 65535 := by
  simp [Lit.wf, IntKind.min, IntKind.max, IntKind.signed, IntKind.bits] at h
  omega
theorem rem_to (a : Int) (h0 : 0 ≤ a) (N : Nat) (hN : 0 < N) : ∃ k : Nat, a.tmod (N : Int) = k ∧ k < N := by
  have h1 := Int.tmod_nonneg (N : Int) h0
  have h2 := Int.tmod_lt_of_pos a (b := (N : Int)) (by omega)
  exact ⟨(a.tmod N).toNat, by omega, by omega⟩
def uOf (bs : List Bool) : List Int := bs.map fun b => if b then 1 else -1
theorem u_tv (bs : List Bool) : TV bs.length (uOf bs) := by
  refine ⟨by simp [uOf], fun i x hx => ?_⟩
  unfold uOf at hx
  rw [List.getElem?_map] at hx
  obtain ⟨b, _, rfl⟩ := Option.map_eq_some_iff.1 hx
  cases b <;> simp
theorem u_at {bs : List Bool} {i : Nat} {b : Bool} (h : bs[i]? = some b) : (uOf bs)[i]? = some (if b then 1 else -1) := by unfold uOf; rw [List.getElem?_map, h]; rfl
theorem holds_one' {bs : List Bool} {l : Int} (ok : LOk bs.length l) (hn : bs.length ≤ 65536) (h : holdsM bs l = true) : wo (uOf bs) l = 1 := by
  obtain ⟨i, hi, hl⟩ := ok.form
  obtain ⟨b, hb⟩ : ∃ b, bs[i]? = some b := ⟨_, List.getElem?_eq_getElem hi⟩
  rcases hl with rfl | rfl
  · have hnb : numb ((i : Int) + 1) = (i : Int) + 1 := numb_pos (by omega)
    rw [holds_one bs _ i b hnb (by rw [hb]; rfl), decide_eq_true (by omega)] at h
    rw [wo_pos, u_at hb]
    cases b <;> simp at h ⊢
  · have hnb : numb (-((i : Int) + 1)) = (i : Int) + 1 := by rw [numb_neg (by omega) (by omega)]; omega
    rw [holds_one bs _ i b hnb (by rw [hb]; rfl), decide_eq_false (by omega)] at h
    rw [wo_neg, u_at hb]
    cases b <;> simp at h ⊢
theorem eval_rest {bs : List Bool} {f : List (List Int)} (ok : FOk bs.length f) (hn : bs.length ≤ 65536) (h : evalM bs f = true) : Rest f (uOf bs) := by
  intro c hc
  have h1 := List.all_eq_true.1 h c hc
  obtain ⟨x, hx, hh⟩ := List.any_eq_true.1 h1
  exact .inl ⟨x, hx, holds_one' (ok c hc x hx) hn hh⟩
theorem zeros_up (n : Nat) (u : List Int) : Up (List.replicate n 0) u := fun i x hx h0 => by
  rw [List.getElem?_replicate] at hx
  split at hx
  · injection hx with hx; exact absurd hx.symm h0
  · cases hx
theorem calm_at {P : Program} {f : FuncId} {args : Array Value} {w : World} {n : Nat} {v : Value} (h : ∀ n, Calls P f args (w.drewN n) fun e W' => e = .returned v ∧ w.drewN n = W') :
    Calls P f args (w.drewN n) fun e W => e = .returned v ∧ ∃ m, W = w.drewN m := (h n).mono fun _ _ k => ⟨k.1, n, k.2.symm⟩
theorem made_row {α : Type} (v : α → Value) (z : α) (k : Nat) : (madeCells #[v z] k).toList = (List.replicate k z).map v := by
  refine List.ext_getElem? fun i => ?_
  rw [List.getElem?_map, List.getElem?_replicate]
  by_cases hi : i < k
  · simp [madeCells, hi, Nat.mod_one]
  · simp [madeCells, hi]
set_option maxHeartbeats 3200000 in
set_option maxRecDepth 100000 in
theorem walk (a0 : Int) (v1 : Value) (a2 : Int) (w : World) (h0 : (Lit.int .u8 a0).wf = true) (h1 : FormB w v1) (h2 : (Lit.int .u16 a2).wf = true) :
    Calls Try.prog 4 #[.int .u8 a0, v1, .int .u16 a2] w fun e w' => e = .returned (.bool true) ∧ Below w.heap.size w w' := by
  obtain ⟨A, f, fcap, rfl, hf, hfl, hfc⟩ := h1
  obtain ⟨h3, h4⟩ := u8_wf h0
  obtain ⟨h5, h6⟩ := u16_wf h2
  obtain ⟨k, hk, hk2⟩ := rem_to a0 h3 11 (by decide)
  have hk' : a0.tmod 11 = (k : Int) := hk
  have HF0 := Lib.hid hf
  have HFC := Lib.hid hfc
  have hmkB : ∀ w, (Instr.makeSlice 35 (.int .i64 (k : Int)) (.int .i64 (k : Int))).run Try.prog w = .ok (.slice (some ⟨w.heap.size, 0, none⟩) k k) (w.alloc (.cells (madeCells #[.bool false] k) 4)) := fun w => run_make_row' (P := Try.prog) 35 4 (.bool false) 1 Try.underlying35 (by kernel_rfl) rfl .i64 .i64 k (by omega) (by omega) w
  have hmkI : ∀ w, (Instr.makeSlice 23 (.int .i64 (k : Int)) (.int .i64 (k : Int))).run Try.prog w = .ok (.slice (some ⟨w.heap.size, 0, none⟩) k k) (w.alloc (.cells (madeCells #[.int .i64 0] k) 3)) := fun w => run_make_row' (P := Try.prog) 23 3 (.int .i64 0) 8 Try.underlying23 infoInt rfl .i64 .i64 k (by omega) (by omega) w
  clear hf hfc h0 h2 hk
  go_enter Try.func4, Try.ntmps4
  go_wp2_with fail
  refine (awake_any _).mono ?_
  rintro e w1 ⟨rfl, hb⟩
  have HB1 := Lib.hid hb
  have HF := Lib.hid (HF0.out.keep hb)
  clear hb
  have cs := Lib.hid (small_is A f fcap 500 w1 HF.out hfl HFC.out)
  have cm := Lib.hid (rmay_any (k : Int) A f fcap w1 (by unfold Wf; omega) HF.out (by omega))
  by_cases hs : (sizeM f : Int) ≤ 500
  · have hs2 := decide_eq_true hs
    rw [hs2] at cs
    cases hmay : mayM (k : Int) f with
    | false =>
      rw [hmay] at cm
      go_wp2_with (first | (go_at_call 10; ((with_reducible refine cs.out.mono ?_); rintro e w' ⟨rfl, rfl⟩)) | (go_at_call 11; ((with_reducible refine cm.out.mono ?_); rintro e w' ⟨rfl, rfl⟩)))
      go_ret
      exact ⟨rfl, HB1.out⟩
    | true =>
      rw [hmay] at cm
      have hlen : f.length ≤ 100000 := by have := size_len f; omega
      have HFS : Hid (∀ c ∈ f, c.length ≤ 100000) := fun c hc => by have := size_le hc; omega
      have HOK := Lib.hid ((may_ok hmay HF.out.wf).2.2 k rfl)
      have HMAY := Lib.hid hmay
      clear hs hs2 hmay
      go_wp2_with (first | (go_at_call 10; ((with_reducible refine cs.out.mono ?_); rintro e w' ⟨rfl, rfl⟩)) | (go_at_call 11; ((with_reducible refine cm.out.mono ?_); rintro e w' ⟨rfl, rfl⟩)))
      obtain ⟨w3, hw3⟩ : ∃ w3, w3 = (w1.alloc (.cells (madeCells #[.bool false] k) 4)).alloc (.cells (madeCells #[.int .i64 0] k) 3) := ⟨_, rfl⟩
      have L3 : Hid (LRel w1 w3 4 (.slice (some ⟨w1.heap.size, 0, none⟩) k k) ((List.replicate k false).map Value.bool)) := by
        rw [hw3]
        refine ⟨World.ownsRow.alloc ⟨by simp, .inr ⟨w1.heap.size, k, madeCells #[.bool false] k, by simp, Nat.le_refl _, new_heap w1 _, by simp, by unfold maxLen; omega, by simp [madeCells], ?_⟩⟩ _, ((Below.refl _ _).alloc (Nat.le_refl _) _).alloc (by simp) _⟩
        rw [made_row Value.bool]
        simp
      have M3 : Hid (w3.heap[w1.heap.size + 1]? = some (.cells (madeCells #[.int .i64 0] k) 3 (0, 0))) := by
        rw [hw3]
        have := new_heap (w1.alloc (.cells (madeCells #[.bool false] k) 4)) (.cells (madeCells #[.int .i64 0] k) 3)
        rwa [show (w1.alloc (.cells (madeCells #[.bool false] k) 4)).heap.size = w1.heap.size + 1 by simp] at this
      have HW3 := Lib.hid hw3
      clear hw3 cs cm hmkB hmkI
      go_loopw [10] (fun v wr => ∃ (i : Nat) (bs : List Bool), i ≤ k ∧ v = .int .i64 i ∧ bs.length = k ∧ Hid (LRel w1 wr 4 (.slice (some ⟨w1.heap.size, 0, none⟩) k k) (bs.map Value.bool)) ∧ Hid (wr.heap[w1.heap.size + 1]? = some (.cells (madeCells #[.int .i64 0] k) 3 (0, 0)))) (fun v _ => k - (intOf v).toNat)
      case atStart => exact ⟨0, List.replicate k false, by omega, rfl, by simp, by have := L3.out; rw [HW3.out] at this; exact this, by have := M3.out; rw [HW3.out] at this; exact this⟩
      case round =>
        clear L3 M3 HW3 w3
        obtain ⟨i, bs, hi, rfl, hbl, R, M⟩ := hrel
        by_cases hlt : i < k
        · obtain ⟨b, hb⟩ : ∃ b, bs[i]? = some b := ⟨_, List.getElem?_eq_getElem (by omega)⟩
          obtain ⟨g, hg0, _, hct, hcf, _, _, hput⟩ := R.out.at (i := i) (u := .bool b) (by rw [List.getElem?_map, hb]; rfl)
          injection hg0 with hg0
          injection hg0 with hg0
          subst hg0
          have HPUT := Lib.hid hput
          have HBL := Lib.hid hbl
          have hwr : IntKind.u64.wrap (i : Int) = (i : Int) := wrap_u64 i (by omega)
          clear hb hput hbl R
          go_wp2_with fail
          go_roundw
          case rel => exact ⟨i + 1, bs.set i _, by omega, by go_num, List.length_set.trans HBL.out, by rw [List.map_set]; exact HPUT.out _, (Below.heap_setCell wr ⟨w1.heap.size, i, none⟩ _ (w1.heap.size + 1) (fun e => by have e' : w1.heap.size + 1 = w1.heap.size := e; omega)).trans M.out⟩
          case measure => simp [intOf]; omega
        · obtain rfl : k = i := by omega
          have HB2 := Lib.hid (Below.on HB1.out R.out.below)
          have HBX := Lib.hid R.out.below
          have HM : Hid (SeqAt (Value.int .i64) wr (some ⟨w1.heap.size + 1, 0, none⟩) (List.replicate k 0)) := ⟨fun i z hz => ⟨_, rfl, by
            rw [add_at]
            unfold World.cell?
            rw [M.out]
            have e : (madeCells #[Value.int .i64 0] k)[i]? = ((List.replicate k (0 : Int)).map (Value.int .i64))[i]? := by rw [← made_row (Value.int .i64)]; simp
            show (madeCells #[Value.int .i64 0] k)[i]? = _
            rw [e, List.getElem?_map, hz]; rfl⟩⟩
          have HSOL : Hid (SeqAt Value.bool wr (some ⟨w1.heap.size, 0, none⟩) bs) := by
            have := R.out.own; rw [List.length_map, hbl] at this; exact seq_own this
          have HFI : Hid (fine (k : Int) f (List.replicate k 0) = true) := by
            unfold Hid fine
            rw [HMAY.out, List.length_replicate, tv_unk (n := k) ⟨by simp, fun i x hx => by rw [List.getElem?_replicate] at hx; split at hx; (injection hx with hx; omega); cases hx⟩]; simp
          have cr := run_any (A := A) (M := some ⟨w1.heap.size + 1, 0, none⟩) (f := f) (m := List.replicate k 0) (fcap := fcap) (mcap := k) (k : Int) wr (by unfold Wf; omega) (HF.out.keep R.out.below) hlen HFS.out HM.out (by simp; omega) (fun h => by cases h)
          rw [List.length_replicate] at cr
          have CR := Lib.hid cr
          have HUT : Hid (TV k (uOf bs)) := by have := u_tv bs; rwa [hbl] at this
          have HER : Hid (evalM bs f = true → Rest f (uOf bs)) := fun h => eval_rest (by rw [hbl]; exact HOK.out) (by omega) h
          have HBL := Lib.hid hbl
          clear cr R M hbl
          go_wp2_with fail
          with_reducible refine CR.out.mono ?_
          rintro e w5 ⟨hb5, ⟨hno, _⟩ | ⟨_, hans, rfl⟩ | ⟨_, t, tA, tcap, hans, rfl, hts, htn⟩⟩
          · rw [HFI.out] at hno; cases hno
          · rw [List.length_replicate] at hans
            have hev : evalM bs f = false := by
              cases he : evalM bs f with
              | false => rfl
              | true => exact absurd (HER.out he) (hans _ HUT.out (zeros_up k _))
            have ce := reval_any A f fcap (some ⟨w1.heap.size, 0, none⟩) bs k w5 ((HF.out.keep HBX.out).keep hb5) (by omega) (HSOL.out.keep hb5) (by rw [HBL.out]; omega)
            rw [hev, HBL.out] at ce
            have CE := Lib.hid ce
            have HB5 := Lib.hid (Below.on HB2.out hb5)
            clear ce hev hans hb5 CR
            by_cases hk0 : (0 : Int) < (k : Int)
            · go_wp2_with (go_at_call 15; ((with_reducible refine CE.out.mono ?_); rintro e w' ⟨rfl, rfl⟩))
              refine wp_loop_rounds 1 ?_
              rw [rounds_succ]
              go_wp2_with fail
              go_ret
              exact ⟨rfl, HB5.out⟩
            · go_wp2_with (go_at_call 15; ((with_reducible refine CE.out.mono ?_); rintro e w' ⟨rfl, rfl⟩))
              refine wp_loop_rounds 1 ?_
              rw [rounds_succ]
              go_wp2_with fail
              go_ret
              exact ⟨rfl, HB5.out⟩
          · rw [List.length_replicate] at hans
            have HTL : Hid (t.length = k) := hans.1.1
            have e1 : ((t.length : Int) != (k : Int)) = false := by rw [HTL.out]; simp
            have HANS := Lib.hid hans
            have HT5 := Lib.hid hts
            have HB5 := Lib.hid (Below.on HB2.out hb5)
            have CE : Hid (∀ w', Below w5.heap.size w5 w' → Calls Try.prog 15 #[.slice A f.length fcap, .slice (some ⟨w1.heap.size, 0, none⟩) k k] w' fun e w'' => e = .returned (.bool (evalM bs f)) ∧ w' = w'') := fun w' b => by
              have ce := reval_any A f fcap (some ⟨w1.heap.size, 0, none⟩) bs k w' (((HF.out.keep HBX.out).keep hb5).keep b) (by omega) ((HSOL.out.keep hb5).keep b) (by rw [HBL.out]; omega)
              rw [HBL.out] at ce; exact ce
            have HSOL5 := Lib.hid (HSOL.out.keep hb5)
            clear hans hts htn hb5 CR
            go_wp2_with fail
            go_loopw [14] (fun v wr => ∃ i q : Nat, i ≤ k ∧ v = .int .i64 i ∧ Hid (wr = w5.drewN q)) (fun v _ => k - (intOf v).toNat)
            case atStart => exact ⟨0, 0, by omega, rfl, rfl⟩
            case round =>
              obtain ⟨i, q, hi, rfl, hwr⟩ := hrel
              by_cases hlt2 : i < k
              · obtain ⟨b, hb⟩ : ∃ b, bs[i]? = some b := ⟨_, List.getElem?_eq_getElem (by have := HBL.out; omega)⟩
                obtain ⟨y, hy⟩ : ∃ y, t[i]? = some y := ⟨_, List.getElem?_eq_getElem (by have := HTL.out; omega)⟩
                obtain ⟨aS, haS, hcs⟩ := HSOL5.out.get i b hb
                injection haS with haS
                subst haS
                rw [add_at] at hcs
                obtain ⟨aT, rfl, hct⟩ := HT5.out.get i y hy
                have hcs' : wr.cell? ⟨w1.heap.size, i, none⟩ = some (.bool b) := by rw [hwr.out]; exact hcs
                have hct' : wr.cell? (aT.add i) = some (.int .i64 y) := by rw [hwr.out]; exact hct
                have hik : (i : Int) < (k : Int) := by omega
                have hit : (i : Int) < (t.length : Int) := by have := HTL.out; omega
                have ev := Lib.hid (fun n => CE.out (wr.drewN n) (by rw [hwr.out, World.drewN_drewN]; exact Below.draws (Below.refl _ _) _))
                cases he : evalM bs f with
                | false =>
                  rw [he] at ev
                  clear he hb hy hcs hct hcs' hct'
                  go_wp2_with fail
                  go_quiet ((go_at_call 15; with_reducible exact calm_at ev.out))
                  go_wp2_with fail
                  go_roundw
                  case rel => exact ⟨i + 1, q + nq, by omega, by go_num, (show _ = _ from by rw [hwr.out, World.drewN_drewN])⟩
                  case measure => simp [intOf]; omega
                | true =>
                  rw [he] at ev
                  by_cases hy0 : y = 0
                  · have e2 : (y != 0) = false := by simpa using hy0
                    clear he hb hy hcs hct
                    go_wp2_with fail
                    go_quiet ((go_at_call 15; with_reducible exact calm_at ev.out))
                    go_wp2_with fail
                    go_roundw
                    case rel => exact ⟨i + 1, q + nq, by omega, by go_num, (show _ = _ from by rw [hwr.out, World.drewN_drewN])⟩
                    case measure => simp [intOf]; omega
                  · have hyb : (y == 1) = b := by
                      have h1 := HANS.out.2.2.2 _ HUT.out (zeros_up k _) (HER.out he) i y hy hy0
                      rw [u_at hb] at h1
                      injection h1 with h1
                      subst h1
                      cases b <;> rfl
                    have e2 : (y != 0) = true := by simpa using hy0
                    have e3 : (b != b) = false := by simp
                    clear he hb hy hcs hct hy0
                    go_wp2_with fail
                    go_quiet ((go_at_call 15; with_reducible exact calm_at ev.out))
                    go_wp2_with fail
                    go_roundw
                    case rel => exact ⟨i + 1, q + nq, by omega, by go_num, (show _ = _ from by rw [hwr.out, World.drewN_drewN])⟩
                    case measure => simp [intOf]; omega
              · have HB6 : Hid (Below w.heap.size w wr) := by rw [hwr.out]; exact Below.on HB5.out (Below.draws (Below.refl _ _) q)
                go_wp2_with fail
                go_ret
                exact ⟨rfl, HB6.out⟩
  · have hs2 := decide_eq_false hs
    rw [hs2] at cs
    go_wp2_with (go_at_call 10; ((with_reducible refine cs.out.mono ?_); rintro e w' ⟨rfl, rfl⟩))
    go_ret
    exact ⟨rfl, HB1.out⟩

set_option maxRecDepth 100000 in
theorem contract (H : Type) (enc : TypeId × Value → H) (W : World) (base : Nat) (args : Array Value) (ds gs : List (DataW H)) (before : List MemPlace)
    (hval : ∀ (j : Nat) t v, Try.f4.params[j]? = some t → args[j]? = some v → Value.okWide Try.prog W .any base t v)
    (hW : DataW.Whole enc Try.prog Try.f4.params.toList Rows.unitKeepsSpec.vars false W args.toList ds gs before) (hk : Rows.uptoSmall H (ds ++ gs) = true) :
    Calls Try.prog 4 args W fun e W' => ∃ v, e = .returned v ∧ Rows.unitKeepsSpec.post enc Try.prog Try.f4 false true false false W args v W' := by
  have hW' := hW
  obtain ⟨p, q, hA0, hV, rfl, hfz, hnd⟩ := hW
  have hA : DataW.TrodAll enc Try.prog W 0 (fun _ => true) true Try.f4.params.toList args.toList ds p := hA0
  rw [Try.params4] at hA hval
  obtain ⟨v0, vs0, d0, ds0, p0, q0, hargs, rfl, rfl, h0, r0⟩ := trodAll_cons hA
  obtain ⟨v1, vs1, d1, ds1, p1, q1, rfl, rfl, rfl, h1, r1⟩ := trodAll_cons r0
  obtain ⟨v2, vs2, d2, ds2, p2, q2, rfl, rfl, rfl, h2, r2⟩ := trodAll_cons r1
  obtain ⟨rfl, rfl, rfl⟩ := trodAll_nil r2
  obtain rfl : args = #[v0, v1, v2] := by cases args; simp_all
  obtain ⟨rfl, rfl⟩ := trodVars_none hV
  simp only [List.append_nil] at hW' hk
  have hb : Rows.uptoBulkAll [d0, d1, d2] ≤ 1048576 := of_decide_eq_true hk
  simp only [Rows.uptoBulkAll] at hb
  obtain ⟨a0, rfl, rfl, rfl, w0⟩ := open_int Try.underlying5 (hval 0 5 v0 rfl rfl) h0
  have w1 : FormB W v1 := form_b Try.underlying22 Try.underlying23 Try.underlying3 cellsRow cellsInt (hval 1 22 v1 rfl rfl) h1 (by omega)
  obtain ⟨a2, rfl, rfl, rfl, w2⟩ := open_int Try.underlying34 (hval 2 34 v2 rfl rfl) h2
  clear hA0
  have hlt := hW'.lt
  refine (walk a0 v1 a2 W w0 w1 w2).mono fun e W' ⟨he, hg⟩ => ?_
  subst he
  exact ⟨_, rfl, post_kept hW' hg (fun _ _ _ => (trodAll_cons_mk (shut_bool Try.underlying4 _) trodAll_mk0)) (fun sp hsp => (trodAll_cons_mk (shut_int Try.underlying5 w0) (trodAll_cons_mk (WideElems.Trod_stays laidOut (by kernel_rfl) (of_decide_eq_true (by kernel_rfl)) h1 (fun x hx => hg.same (hlt x (by first | exact hx | (simp; first | exact .inl hx | exact .inr hx | exact hx | exact .inr (.inl hx) | exact .inr (.inr hx))))) (fun x hx => hsp x (by first | exact hx | (simp; first | exact .inl hx | exact .inr hx | exact hx | exact .inr (.inl hx) | exact .inr (.inr hx))))) (trodAll_cons_mk (shut_int Try.underlying34 w2) trodAll_mk0)))) (fun _ _ => rfl) (by first | rfl | simp)
    (ok_one (by kernel_rfl) rfl (okWide_bool_mk Try.underlying4 _))⟩
set_option maxRecDepth 100000 in
theorem lifted (os : Os) (started : os.Started) (H : Type) (enc : TypeId × Value → H) (F : Stop.Interp) :
    ReturnsInHanded {} Try.checked os 4 .any ((Rows.OpenSpec.upto Rows.unitKeepsSpec).pre6 enc Try.prog Try.f4 Rows.unitKeepsUptoRow.domain false) (((Rows.OpenSpec.upto Rows.unitKeepsSpec).at F).post enc Try.prog Try.f4 false true false false) := by
  refine returnsInHanded_of_cond (C := Try.checked) (s := Rows.OpenSpec.upto Rows.unitKeepsSpec) (k := Rows.uptoSmall) rfl own started (by kernel_rfl) Try.func4
    (OpenSpec.witness (enc := enc) (C := Try.checked) (s := Rows.OpenSpec.upto Rows.unitKeepsSpec) (k := Rows.uptoSmall) rfl false ⟨#[], #[.int .u8 0, .slice none 0 0, .int .u16 0], []⟩ 8 (by kernel_rfl) (by kernel_rfl) (by kernel_rfl)
      (x := ([.lit (.int .u8 0), .nil, .lit (.int .u16 0)], [], [])) (by kernel_rfl) rfl (by kernel_rfl)) ?_
  intro W base args ds gs before hval hW _ hk _
  exact contract H enc W base args ds gs before hval hW hk

theorem proved : Rows.UnitKeepsUptoSaid :=
  OpenClaim.holds_of_cond 4 Try.f4 rfl rfl rfl rfl rfl rfl rfl ⟨rfl, rfl, rfl, rfl, rfl⟩ rfl rfl rfl rfl rfl (by kernel_rfl) Try.func4 (by kernel_rfl)
    (of_decide_eq_true (by kernel_rfl)) (by unfold Func.isWrapper; first | (rw [if_pos (by decide +kernel)]; kernel_rfl) | (rw [if_neg (by decide +kernel)]; exact ⟨rfl, rfl⟩))
    (fun os started H enc _ F => lifted os started H enc F)
#print axioms proved
end Go.Proofs.Ytigomnbcalpohaa.unitKeeps
