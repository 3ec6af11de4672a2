/-
  follow of package unit: it goes through all that follows, or finds that a clause can't hold any more.
-/
import Derived.Test.YtigomnbcalpohaaUnitG
namespace Go.Proofs.Ytigomnbcalpohaa
open Go.ChangeShapes Go.WideShapes Go.ChangeAt Go.RowKit
set_option linter.unusedVariables false
section
variable {B : Nat} {τ : Nat → Nat} {W : World} {p n : Nat} {cs : List (List Int)} {F : Nat → List Nat} {cv lv wv tv hv : Value} {m : List Int}
set_option maxHeartbeats 1600000 in
theorem follow_any {lf t hs : List Int} (h : Ch B τ W p n cs lf F t hs cv lv wv tv hv) (fw : Fw n cs m t hs (fun _ => []) lf (fun _ => False)) (hF : ∀ q, q < 2 * n → F q = wl cs (un q)) (ok : FOk n cs) (hnd : ∀ c ∈ cs, c.Nodup) (hn : n ≤ 65536) (hcs : cs.length ≤ 100000) (hcl : ∀ c ∈ cs, c.length ≤ 100000) :
    Calls Try.prog 20 #[ptr p] W (FollowPost B τ W p n cs F cv lv wv tv m) := by
  have H := Lib.hid h
  have FW := Lib.hid fw
  have OK := Lib.hid ok
  have ND := Lib.hid hnd
  have CL := Lib.hid hcl
  have HF := Lib.hid hF
  obtain ⟨cA, ccap, hcv⟩ := h.clausesForm
  have c0 : W.cell? ⟨p, 0, none⟩ = some cv := h.blk.cell 0
  have hlen : lf.length = cs.length := fw.len
  clear h fw ok hnd hcl hF
  subst hcv
  go_enter Try.func20, Try.ntmps20
  go_wp2_with fail
  go_loopw [12] (fun v wr => ∃ (j : Nat) (τ1 : Nat → Nat) (t1 hs1 : List Int) (hv1 : Value), j ≤ cs.length ∧ v = .int .i64 j ∧ Hid (Ch B τ1 wr p n cs lf F t1 hs1 (.slice cA cs.length ccap) lv wv tv hv1) ∧ Hid (Fw n cs m t1 hs1 (fun _ => []) lf (fun i => i < j)) ∧ Hid (Step RF τ τ1 W wr)) (fun v _ => cs.length - (intOf v).toNat)
  case atStart => exact ⟨0, τ, t, hs, hv, by omega, rfl, H.out, FW.out.weak (fun j hj => by omega), Step.refl _ _ _⟩
  case round =>
    obtain ⟨j, τ1, t1, hs1, hv1, hj, rfl, H1, FW1, ST⟩ := hrel
    by_cases hlt : j < cs.length
    · obtain ⟨c, hz⟩ : ∃ c, cs[j]? = some c := ⟨_, List.getElem?_eq_getElem hlt⟩
      have cl := settle_any H1.out FW1.out OK.out hn hz hcs (CL.out c (List.mem_of_getElem? hz))
      clear hz
      go_wp2_with fail
      refine cl.mono ?_
      rintro e w1 (⟨rfl, τ2, t2, ex, hv2, h2, f2, s2⟩ | ⟨rfl, hans, rfl⟩)
      · have H2 := Lib.hid h2
        have F2 := Lib.hid f2
        have S2 := Lib.hid (ST.out.trans s2)
        clear h2 f2 s2 cl
        go_wp2_with fail
        go_roundw
        case rel => exact ⟨j + 1, τ2, t2, _, hv2, by omega, by go_num, H2.out, F2.out.weak (fun i hi => by omega), S2.out⟩
        case measure => simp [intOf]; omega
      · have HA := Lib.hid hans
        clear hans cl
        go_wp2_with fail
        go_ret
        exact .inr ⟨rfl, HA.out, τ1, ST.out⟩
    · obtain rfl : cs.length = j := by omega
      have FW2 := Lib.hid (show Fw n cs m t1 hs1 (fun _ => hs1.take 0) lf (fun _ => True) from
        ⟨FW1.out.st, FW1.out.up, FW1.out.low, FW1.out.len, FW1.out.left, (fun i x hx => by simp at hx), fun i c _ hc => FW1.out.set i c (List.getElem?_eq_some_iff.1 hc).1 hc⟩)
      clear FW1 FW H hlt hj c0
      go_wp2_with fail
      go_loopw [4] (fun v wr => ∃ (k : Nat) (τ2 : Nat → Nat) (t2 hs2 lf2 : List Int) (hv2 : Value), k ≤ hs2.length ∧ hs2.length ≤ n ∧ v = .int .i64 k ∧ Hid (Ch B τ2 wr p n cs lf2 F t2 hs2 (.slice cA cs.length ccap) lv wv tv hv2) ∧ Hid (Fw n cs m t2 hs2 (fun _ => hs2.take k) lf2 (fun _ => True)) ∧ Hid (Step RF τ τ2 W wr)) (fun v _ => n - (intOf v).toNat)
      case atStart => exact ⟨0, τ1, t1, hs1, lf, hv1, by omega, FW2.out.st.le, rfl, H1.out, FW2.out, ST.out⟩
      case round =>
        clear H1 FW2 ST hlen
        obtain ⟨k, τ2, t2, hs2, lf2, hv2, hk, hk2, rfl, H2, F2, S2⟩ := hrel
        by_cases hlt : k < hs2.length
        · obtain ⟨x, hz⟩ : ∃ x, hs2[k]? = some x := ⟨_, List.getElem?_eq_getElem hlt⟩
          obtain ⟨hg, hcap, hhv, hcx, hcap1, hcap2⟩ := H2.out.heldAt hz
          have okx := (F2.out.st.ok x (List.mem_of_getElem? hz)).1
          obtain ⟨e1, e2⟩ := un_pl okx.neg
          have xb : -65536 ≤ x ∧ x ≤ 65536 := by have := okx.2; omega
          have cp := fun W => place_any (-x) W okx.neg hn
          obtain ⟨wb, A, wcap, hwv, hcw, hrow⟩ := H2.out.withAt e2
          have hFq := HF.out _ e2
          rw [e1] at hFq
          have c2 : wr.cell? ⟨p, 2, none⟩ = some wv := H2.out.blk.cell 2
          have c4 : wr.cell? ⟨p, 4, none⟩ = some hv2 := H2.out.blk.cell 4
          rw [hFq] at hcw hrow
          obtain ⟨ws, hws⟩ : ∃ ws, ws = wl cs (-x) := ⟨_, rfl⟩
          rw [← hws] at hcw hrow
          have WS := Lib.hid hws
          have HR := Lib.hid hrow
          have HZ := Lib.hid hz
          have HX : Hid (x ∈ hs2 ∧ x ∉ hs2.take k ∧ hs2.take (k + 1) = hs2.take k ++ [x] ∧ ∀ y ∈ hs2.take k, y ∈ hs2) := by
            have hz' := (List.getElem?_eq_some_iff.1 hz).2
            refine ⟨List.mem_of_getElem? hz, fun hm => ?_, by rw [List.take_succ_eq_append_getElem hlt, hz'], fun y hy => List.mem_of_mem_take hy⟩
            obtain ⟨a, ha, e⟩ := List.mem_iff_getElem.1 hm
            rw [List.length_take] at ha
            rw [List.getElem_take, ← hz'] at e
            have := (List.getElem_inj F2.out.st.once).1 e
            omega
          have wsl : ws.length ≤ 100000 := by rw [hws]; unfold wl; exact Nat.le_trans (List.length_filter_le _ _) (by simp; exact hcs)
          obtain ⟨q, hq⟩ : ∃ q, q = pl (-x) := ⟨_, rfl⟩
          rw [← hq] at hcw e2 cp HR
          obtain ⟨nx, hnx⟩ : ∃ nx, nx = -x := ⟨_, rfl⟩
          have hnw : IntKind.i64.wrap (-x) = nx := by rw [hnx]; exact wrap_in (by omega) (by omega)
          rw [← hnx] at cp
          have CP := Lib.hid cp
          have q1 : (q : Int) < 2 * (n : Int) := by omega
          subst hhv
          subst hwv
          clear hz okx e1 hFq hrow hws hq hnx cp xb
          go_wp2_with fail
          go_quiet ((go_at_call 28; with_reducible exact calm_one CP.out))
          have BQ : Below wr.heap.size wr (wr.drewN nq) := Below.draws (Below.refl _ _) nq
          have H3 := Lib.hid (H2.out.below BQ)
          have S3 := Lib.hid (S2.out.trans (Step.of_below RF τ2 BQ))
          have R3 := Lib.hid (HR.out.step (Step.of_below RF τ2 BQ) (by omega))
          clear BQ hcx hcw c2 c4 H2 S2 HR CP hnw
          generalize wr.drewN nq = wq at *
          go_wp2_with fail
          go_loopw [45] (fun v wi => ∃ (j : Nat) (τ3 : Nat → Nat) (t3 ex lf3 : List Int) (hv3 : Value), j ≤ ws.length ∧ v = .int .i64 j ∧ Hid (Ch B τ3 wi p n cs lf3 F t3 (hs2 ++ ex) (.slice cA cs.length ccap) lv (.slice (some ⟨wb, 0, none⟩) (2 * n) (2 * n)) tv hv3) ∧ Hid (Fw n cs m t3 (hs2 ++ ex) (DD (hs2.take k) x (ws.take j)) lf3 (fun _ => True)) ∧ Hid (Step RF τ τ3 W wi) ∧ Hid (Row τ3 (8 + q) wi 3 (.slice A ws.length wcap) (nats ws))) (fun v _ => ws.length - (intOf v).toNat)
          case atStart => exact ⟨0, τ2, t2, [], lf2, _, by omega, rfl, by rw [List.append_nil]; exact H3.out, by rw [List.append_nil]; exact F2.out.begin_, S3.out, R3.out⟩
          case round =>
            clear H3 S3 R3 F2
            obtain ⟨j, τ3, t3, ex, lf3, hv3, hj, rfl, H3, F3, S3, R3⟩ := hrel
            by_cases hlt2 : j < ws.length
            · obtain ⟨i, hi⟩ : ∃ i, ws[j]? = some i := ⟨_, List.getElem?_eq_getElem hlt2⟩
              obtain ⟨c, hc, _⟩ := wl_mem.1 (by rw [← WS.out]; exact List.mem_of_getElem? hi : i ∈ wl cs (-x))
              obtain ⟨hlf, G3⟩ := F3.out.next ND.out WS.out hi hc (List.mem_append_left _ HX.out.1) HX.out.2.1
              obtain ⟨ga, gcap, hA, _, hca, _, gc1, gc2⟩ := R3.out.cells j (.int .i64 i) (by rw [List.getElem?_map, hi]; rfl)
              rw [List.length_map] at hA gc1
              injection hA with hA _ hA2
              subst hA
              subst hA2
              obtain ⟨lg, lcap, hlv, hcl2, hfl, lc1, lc2⟩ := H3.out.leftAt hlf
              have c1 : wr.cell? ⟨p, 1, none⟩ = some lv := H3.out.blk.cell 1
              have hil : i < lf3.length := (List.getElem?_eq_some_iff.1 hlf).1
              have hic : i < cs.length := (List.getElem?_eq_some_iff.1 hc).1
              obtain ⟨h4, s4⟩ := H3.out.setL hlv hil ((cnt (hs2.take k) c : Int) - 1)
              have hcnt : cnt (hs2.take k) c ≤ 100000 := Nat.le_trans (List.length_filter_le _ _) (CL.out c (List.mem_of_getElem? hc))
              have cl := settle_any h4 G3 OK.out hn hc hcs (CL.out c (List.mem_of_getElem? hc))
              have CLL := Lib.hid cl
              have S4 := Lib.hid (S3.out.trans (s4.mono (fun r h => .inr (.inl h))))
              have R4 := Lib.hid (R3.out.step s4 (by omega))
              have hll : lf3.length ≤ 100000 := by have := F3.out.len; omega
              clear cl s4 h4 hlf G3 hi hc H3 F3 S3 R3
              subst hlv
              generalize cnt (hs2.take k) c = kc at *
              go_wp2_with fail
              refine CLL.out.mono ?_
              rintro e w1 (⟨rfl, τ5, t5, ex5, hv5, h5, f5, s5⟩ | ⟨rfl, hans, rfl⟩)
              · have H5 := Lib.hid h5
                have F5 := Lib.hid f5
                have S5 := Lib.hid (S4.out.trans s5)
                have R5 := Lib.hid (R4.out.step s5 (by omega))
                clear h5 f5 s5 CLL S4 R4
                go_wp2_with fail
                go_roundw
                case rel => exact ⟨j + 1, τ5, t5, ex ++ ex5, _, hv5, by omega, by go_num, by rw [← List.append_assoc]; exact H5.out, by rw [← List.append_assoc]; exact F5.out.weak (fun i' _ => (Classical.em (i' = i)).elim (fun e => .inr e) (fun e => .inl ⟨trivial, e⟩)), S5.out, R5.out⟩
                case measure => simp [intOf]; omega
              · have HA := Lib.hid hans
                clear hans CLL
                go_wp2_with fail
                go_ret
                exact .inr ⟨rfl, HA.out, τ3, S4.out⟩
            · have F4 := Lib.hid (F3.out.end_ (by omega) WS.out (List.mem_append_left _ HX.out.1) (fun y hy => List.mem_append_left _ (HX.out.2.2.2 y hy)))
              have hle := F4.out.st.le
              have HT : Hid ((hs2 ++ ex).take (k + 1) = hs2.take k ++ [x]) := by show _ = _; rw [List.take_append_of_le_length (by omega)]; exact HX.out.2.2.1
              clear F3 R3
              go_wp2_with fail
              go_roundw
              case rel => exact ⟨k + 1, τ3, t3, hs2 ++ ex, lf3, hv3, by rw [List.length_append]; omega, hle, by go_num, H3.out, by rw [HT.out]; exact F4.out, S3.out⟩
              case measure => simp [intOf]; omega
        · obtain rfl : hs2.length = k := by omega
          have HA := Lib.hid (show Ans n cs m (some t2) from by have := F2.out; rw [List.take_length] at this; exact this.done OK.out ND.out)
          obtain ⟨hA, hcap, hhv⟩ := H2.out.heldForm
          have c4 : wr.cell? ⟨p, 4, none⟩ = some hv2 := H2.out.blk.cell 4
          subst hhv
          clear F2
          go_wp2_with fail
          go_ret
          exact .inl ⟨rfl, τ2, t2, hs2, lf2, _, H2.out, HA.out, S2.out⟩
end
end Go.Proofs.Ytigomnbcalpohaa
