/-
  goRound of package check: heights round till nothing changes.
-/
import Derived.Test.YthjbjbbbbdhcmaaCheckT
namespace Go.Proofs.Ythjbjbbbbdhcmaa
open Go.ChangeShapes Go.WideShapes Go.ChangeAt Go.RowKit Go.Joins
set_option linter.unusedVariables false

set_option maxRecDepth 100000 in
set_option maxHeartbeats 4000000 in
theorem round_any {W : World} {L : List (Int × Int)} {g m : Nat} (h1 : 1 ≤ L.length) (h2 : L.length ≤ 96) (hs : StepsAt W g L.length L.length L) (hf : ∀ (i : Nat) (x : Int × Int), L[i]? = some x → fault L.length m i x = 0) :
    Calls Try.prog 24 #[.slice (some ⟨g, 0, none⟩) L.length L.length] W fun e W' => ∃ (rb : Nat) (r : Nat → Nat), e = .returned (.slice (some ⟨rb, 0, none⟩) L.length L.length) ∧ Hid (MasksOk L r) ∧ MsAt W' rb L.length r ∧ W.heap.size ≤ rb ∧ Gw W W' := by
  have HS := Lib.hid hs
  have HF := Lib.hid hf
  have HOK : Hid (∀ (i : Nat) (x : Int × Int), L[i]? = some x → okI x = true) := fun i x hx => (fault_zero (hf i x hx)).1
  clear hs hf
  have hmk : ∀ w, (Instr.makeSlice 47 (.int .i64 (L.length : Int)) (.int .i64 (L.length : Int))).run Try.prog w = .ok (.slice (some ⟨w.heap.size, 0, none⟩) L.length L.length) (w.alloc (.cells (madeCells #[.int .u32 0] L.length) 55)) := fun w => run_make_row' (P := Try.prog) 47 55 (.int .u32 0) 4 Try.underlying47 (by kernel_rfl) rfl .i64 .i64 L.length (by omega) (by omega) w
  have M0 : MsAt (W.alloc (.cells (madeCells #[.int .u32 0] L.length) 55)) W.heap.size L.length (fun _ => 0) := by
    have := Has.new W 55 (madeCells #[.int .u32 0] L.length)
    rw [made_msks] at this ⊢
    exact this
  have HG0 := Lib.hid (Gw.alloc W (.cells (madeCells #[.int .u32 0] L.length) 55))
  have HGE := Lib.hid (Nat.le_refl W.heap.size)
  have HGL := Lib.hid HS.out.lt
  go_enter Try.func24, Try.ntmps24
  go_upto_region 2 with fail
  generalize hrb : W.heap.size = rb at HGE HGL M0 ⊢
  rw [← hrb] at HGE
  have HRB := Lib.hid hrb
  clear hrb hmk
  generalize W.alloc (.cells (madeCells #[.int .u32 0] L.length) 55) = wm at *
  have z0 := M0.cell (j := 0) (by omega)
  have y0 := M0.free 0
  have M1 := Lib.hid (M0.put (k := 0) (by omega) 1)
  have HM1 : Hid (Gw W (wm.setCell ⟨rb, 0, none⟩ (.int .u32 ((1 : Nat) : Int)))) := (But.set _ _ _ _).gw HG0.out (by rw [← HRB.out]; exact Nat.le_refl _)
  clear M0 HG0
  go_upto_region 3 with fail
  have FZ : Hid (Sound L (mks ms0)) := ms0_sound L
  have FL0 : Hid (∀ i, ms0 i < 131072) := ms0_lt
  have HM1' : Hid (MsAt (wm.setCell ⟨rb, 0, none⟩ (.int .u32 1)) rb L.length ms0) := M1.out
  have HM2 : Hid (Gw W (wm.setCell ⟨rb, 0, none⟩ (.int .u32 1))) := HM1.out
  clear z0 y0 M1 HM1
  generalize wm.setCell ⟨rb, 0, none⟩ (.int .u32 1) = w1 at *
  generalize ms0 = rz at *
  go_wp2
  go_loopg [4] (left (mks rz) L.length + 1) (fun gg c w' => ∃ (r : Nat → Nat) (cb : Bool), c = .bool cb ∧ Hid (Gw W w') ∧ Hid (MsAt w' rb L.length r) ∧ Hid (∀ i, r i < 131072) ∧ Hid (Sound L (mks r)) ∧ left (mks r) L.length + (if cb = true then 1 else 0) ≤ gg ∧ Hid (cb = false → ∀ i b, i < L.length → b ≤ 16 → Cl L (mks r) i b))
  case atStart => exact ⟨rz, true, rfl, HM2.out, HM1'.out, FL0.out, FZ.out, by simp, fun k => by cases k⟩
  case round =>
    obtain ⟨r, cb, rfl, G, M, LT, SO, hgg, CLO⟩ := hrel
    clear HM1' HM2 FZ FL0
    cases cb with
    | true =>
      as_aux_lemma =>
      have hgg' : left (mks r) L.length + 1 ≤ gk := by simpa using hgg
      have RX0 := Lib.hid (Rx.start (n := L.length) LT.out SO.out)
      clear hgg CLO SO LT
      go_wp2
      go_loopw [4, 18] (fun c i w' => ∃ (r' : Nat → Nat) (cb : Bool) (k : Nat), k ≤ L.length ∧ c = .bool cb ∧ i = .int .i64 k ∧ Hid (Gw W w') ∧ Hid (MsAt w' rb L.length r') ∧ Hid (Rx L L.length r r' cb k 0)) (fun _ i _ => L.length - (intOf i).toNat)
      case atStart => exact ⟨r, false, 0, by omega, rfl, rfl, G.out, M.out, RX0.out⟩
      case round =>
        obtain ⟨r', cb, k, hk, rfl, rfl, G', M', RX⟩ := hrel
        clear G M RX0
        by_cases hlt : k < L.length
        · obtain ⟨x, hx⟩ : ∃ x, L[k]? = some x := ⟨_, List.getElem?_eq_getElem hlt⟩
          obtain ⟨v, p0, p1, p2, s3⟩ := HS.out.at' k x hlt hx
          obtain ⟨A, cap, rfl, s4⟩ := own_shape s3
          have s0 := G'.out.cell p0
          have s1 := G'.out.cell p1
          have s2 := G'.out.cell p2
          clear p0 p1 p2
          obtain ⟨⟨a1, a2⟩, a3, a4⟩ := tkg (HOK.out k x hx)
          rw [a1] at s0
          rw [a3] at s1
          have HX := Lib.hid hx
          have HN4 := Lib.hid s4
          have HLT := Lib.hid (fun (q : Nat) (t : Int) (h : (nxt x k)[q]? = some t) => nxt_lt hx (HF.out k x hx) h)
          have hl2 := nxt_len x k
          clear hx s3 s4 a1 a3
          obtain ⟨t0, ht0⟩ : ∃ y, y = (tkx x).toNat := ⟨_, rfl⟩
          obtain ⟨g0, hg0⟩ : ∃ y, y = (gvx x).toNat := ⟨_, rfl⟩
          rw [← ht0] at s0 a2
          rw [← hg0] at s1 a4
          have HT0 := Lib.hid ht0
          have HG0 := Lib.hid hg0
          clear ht0 hg0
          go_upto_region 9 with fail
          have GS0 : Hid (GS W (wr.alloc (.cells #[.int .i64 (t0 : Int), .int .i64 (g0 : Int), .slice A (nxt x k).length cap] 66)) rb wr.heap.size L.length r' (t0 : Int) (g0 : Int) (.slice A (nxt x k).length cap)) := ⟨G'.out.trans (Gw.alloc _ _), M'.out.on (Gw.alloc _ _), Has.new _ _ _⟩
          have hsb : Hid (wr.heap.size ≠ rb) := by
            have := Has.lt (w := wr) M'.out
            show wr.heap.size ≠ rb
            omega
          generalize hws : wr.alloc (.cells #[.int .i64 (t0 : Int), .int .i64 (g0 : Int), .slice A (nxt x k).length cap] 66) = ws at *
          generalize hsbe : wr.heap.size = sb at *
          clear hws hsbe G' M' s0 s1 s2
          have e2 : ws.cell? ⟨sb, 2, none⟩ = some (.slice A (nxt x k).length cap) := (box3 GS0.out.s).2.2.1
          go_wp2
          go_loopw [4, 26] (fun c i w' => ∃ (r2 : Nat → Nat) (cb : Bool) (j : Nat), j ≤ (nxt x k).length ∧ c = .bool cb ∧ i = .int .i64 j ∧ Hid (GS W w' rb sb L.length r2 (t0 : Int) (g0 : Int) (.slice A (nxt x k).length cap)) ∧ Hid (Rx L L.length r r2 cb k j)) (fun _ i _ => (nxt x k).length - (intOf i).toNat)
          case atStart => exact ⟨r', cb, 0, by omega, rfl, rfl, GS0.out, RX.out⟩
          case round =>
            obtain ⟨r2, cb2, j, hj, rfl, rfl, S2, RX2⟩ := hrel
            clear GS0 RX e2
            by_cases hlj : j < (nxt x k).length
            · obtain ⟨t, ht⟩ : ∃ t, (nxt x k)[j]? = some t := ⟨_, List.getElem?_eq_getElem hlj⟩
              obtain ⟨g1, rfl, n1⟩ := HN4.out j t ht
              have n2 := S2.out.gw.cell n1
              obtain ⟨ht0, htn⟩ := HLT.out j t ht
              obtain ⟨T, rfl⟩ : ∃ T : Nat, t = T := ⟨t.toNat, by omega⟩
              rw [Int.toNat_natCast] at htn
              have hT : (T : Int) < L.length := by omega
              have hK : (k : Int) < L.length := by omega
              have HTJ := Lib.hid ht
              clear ht n1
              have lT := RX2.out.lt T
              have lK := RX2.out.lt k
              have HBL := bh_lt (r2 k) t0 g0
              have BE := fun w => behind_any (r2 k) t0 g0 (.slice (some ⟨g1, 0, none⟩) (nxt x k).length cap) w lK a2 a4
              have HOR : bits .or .u32 ((r2 T : Nat) : Int) ((bh (r2 k) t0 g0 : Nat) : Int) = ((r2 T ||| bh (r2 k) t0 g0 : Nat) : Int) := u32_or_nat _ _ (by omega) (by omega)
              obtain ⟨mo, hmo⟩ : ∃ y, y = r2 T ||| bh (r2 k) t0 g0 := ⟨_, rfl⟩
              rw [← hmo] at HOR
              have HMO := Lib.hid hmo
              clear hmo
              go_upto_region 12 with fail
              have hne : Nonempty (InP (fun w => GS W w rb sb L.length r2 (t0 : Int) (g0 : Int) (.slice (some ⟨g1, 0, none⟩) (nxt x k).length cap))) := ⟨⟨_, S2.out⟩⟩
              have k0 : ∀ n : InP (fun w => GS W w rb sb L.length r2 (t0 : Int) (g0 : Int) (.slice (some ⟨g1, 0, none⟩) (nxt x k).length cap)), n.val.cell? ⟨rb, T, none⟩ = some (.int .u32 (r2 T : Nat)) := fun n => n.ok.m.cell htn
              have k1 : ∀ n : InP (fun w => GS W w rb sb L.length r2 (t0 : Int) (g0 : Int) (.slice (some ⟨g1, 0, none⟩) (nxt x k).length cap)), n.val.cell? ⟨rb, k, none⟩ = some (.int .u32 (r2 k : Nat)) := fun n => n.ok.m.cell hlt
              have k2 : ∀ n : InP (fun w => GS W w rb sb L.length r2 (t0 : Int) (g0 : Int) (.slice (some ⟨g1, 0, none⟩) (nxt x k).length cap)), n.val.cell? ⟨sb, 0, none⟩ = some (.int .i64 (t0 : Int)) := fun n => (box3 n.ok.s).1
              have k3 : ∀ n : InP (fun w => GS W w rb sb L.length r2 (t0 : Int) (g0 : Int) (.slice (some ⟨g1, 0, none⟩) (nxt x k).length cap)), n.val.cell? ⟨sb, 1, none⟩ = some (.int .i64 (g0 : Int)) := fun n => (box3 n.ok.s).2.1
              have k4 : ∀ n : InP (fun w => GS W w rb sb L.length r2 (t0 : Int) (g0 : Int) (.slice (some ⟨g1, 0, none⟩) (nxt x k).length cap)), n.val.cell? ⟨sb, 2, none⟩ = some (.slice (some ⟨g1, 0, none⟩) (nxt x k).length cap) := fun n => (box3 n.ok.s).2.2.1
              refine region_p (S := fun w => GS W w rb sb L.length r2 (t0 : Int) (g0 : Int) (.slice (some ⟨g1, 0, none⟩) (nxt x k).length cap)) (by kernel_rfl) (by kernel_rfl) (S2.out.on (Gw.refl _).drew) ?_
              repeat (go_big_quiet_step (with_reducible exact toG (fun a b h g => GS.on h g) (BE _)))
              refine wpQuiet_nil ?_
              intro _ hw'
              obtain ⟨nq, rfl⟩ := hw'
              have q0 := k0 nq
              have qz := nq.ok.m.free T
              have SQ := Lib.hid nq.ok
              clear k0 k1 k2 k3 k4 hne S2 HOR BE n2
              generalize nq.val = wq at *
              by_cases heq : mo = r2 T
              · have PUT : Hid (GS W (wq.setCell ⟨rb, T, none⟩ (.int .u32 (mo : Nat))) rb sb L.length r2 (t0 : Int) (g0 : Int) (.slice (some ⟨g1, 0, none⟩) (nxt x k).length cap)) := by
                  have := SQ.out.put htn (by rw [← HRB.out]; exact Nat.le_refl _) hsb.out mo
                  rw [heq, seti_id] at this
                  rw [heq]
                  exact this
                have RX3 := Lib.hid (RX2.out.same HX.out HTJ.out (by rw [Int.toNat_natCast, ← HT0.out, ← HG0.out, ← HMO.out, heq]))
                have kn : (((mo : Nat) : Int) != ((r2 T : Nat) : Int)) = false := by simp [heq]
                clear heq RX2
                cases cb2 with
                | true =>
                  as_aux_lemma =>
                  go_wp2
                  go_roundw
                  case rel => exact ⟨r2, true, j + 1, by omega, rfl, by go_num, PUT.out, RX3.out⟩
                  case measure => simp [intOf]; omega
                | false =>
                  as_aux_lemma =>
                  go_wp2
                  go_roundw
                  case rel => exact ⟨r2, false, j + 1, by omega, rfl, by go_num, PUT.out, RX3.out⟩
                  case measure => simp [intOf]; omega
              · have PUT := Lib.hid (SQ.out.put htn (by rw [← HRB.out]; exact Nat.le_refl _) hsb.out mo)
                have RX3 : Hid (Rx L L.length r (seti r2 T mo) true k (j + 1)) := by
                  have := RX2.out.set HX.out (HOK.out k x HX.out) HTJ.out (by rw [Int.toNat_natCast]; exact htn) (by rw [Int.toNat_natCast, ← HT0.out, ← HG0.out, ← HMO.out]; exact heq) k (j + 1)
                  rw [Int.toNat_natCast, ← HT0.out, ← HG0.out, ← HMO.out] at this
                  exact this
                have kn : (((mo : Nat) : Int) != ((r2 T : Nat) : Int)) = true := by simp; omega
                clear heq RX2
                cases cb2 with
                | true =>
                  as_aux_lemma =>
                  go_wp2
                  go_roundw
                  case rel => exact ⟨_, true, j + 1, by omega, rfl, by go_num, PUT.out, RX3.out⟩
                  case measure => simp [intOf]; omega
                | false =>
                  as_aux_lemma =>
                  go_wp2
                  go_roundw
                  case rel => exact ⟨_, true, j + 1, by omega, rfl, by go_num, PUT.out, RX3.out⟩
                  case measure => simp [intOf]; omega
            · have RX3 := Lib.hid (RX2.out.row HX.out (by omega))
              clear RX2
              go_wp2
              go_roundw
              case rel => exact ⟨r2, cb2, k + 1, by omega, rfl, by go_num, S2.out.gw, S2.out.m, RX3.out⟩
              case measure => simp [intOf]; omega
        · obtain rfl : k = L.length := by omega
          have HE : Hid (left (mks r') L.length + (if cb = true then 1 else 0) ≤ left (mks r) L.length ∧ (cb = false → ∀ i b, i < L.length → b ≤ 16 → Cl L (mks r') i b)) := by
            cases cb with
            | true => exact ⟨by have := RX.out.yes rfl; simp; omega, fun e => by cases e⟩
            | false => exact ⟨by rw [(RX.out.no rfl).1]; simp, fun _ => RX.out.closed rfl HOK.out⟩
          have HSO := Lib.hid RX.out.s
          have HLT2 := Lib.hid RX.out.lt
          clear RX
          go_wp2
          go_roundg (left (mks r) L.length)
          case rel => exact ⟨r', cb, rfl, G'.out, M'.out, HLT2.out, HSO.out, HE.out.1, HE.out.2⟩
          all_goals omega
    | false =>
      have HR : Hid (MasksOk L r) := ⟨LT.out, fun i b => closed_is SO.out (CLO.out rfl) i b⟩
      clear CLO SO LT hgg
      go_wp2
      go_ret
      exact ⟨_, _, rfl, HR, M.out, by rw [← HRB.out]; exact Nat.le_refl _, G.out⟩
end Go.Proofs.Ythjbjbbbbdhcmaa
