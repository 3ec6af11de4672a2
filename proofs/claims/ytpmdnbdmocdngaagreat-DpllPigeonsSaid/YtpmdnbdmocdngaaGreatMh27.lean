/-
  Parts of the proof, joined: DpllLf, DpllQ4.
-/
import Derived.Test.YtpmdnbdmocdngaaGreatMh26
import Derived.Test.YtpmdnbdmocdngaaGreatMh09

namespace Go.Proofs.YtpmdnbdmocdngaaGreat
open Go.ChangeShapes Go.WideShapes Go.ChangeAt Go.RowKit
set_option linter.unusedVariables false
set_option linter.unusedSimpArgs false

section
variable {B : Nat} {τ : Nat → Nat} {w wr : World} {p n x i : Nat} {d : Sd} {tl : List Nat} {r : Nt}
set_option maxHeartbeats 6400000 in
set_option maxRecDepth 4000 in
theorem lesson_any (h : Sr B τ w p n d) (L : Len n d) {k : Nat} {c : Cl} (hk : d.cls[k]? = some c) (hkb : k < 2147483648) (hc : CGood n c) (htr : ∀ q ∈ d.tr, q < 2 * n) (hdp : ∀ v ∈ d.dp, v ≤ n) (G : Gat d n d.tr.length (Nt.all d.dp d.ma.length ⟨d.se, d.nu, [0], 0⟩ c.ls) r) (hls : r.ls = oth x :: tl) (hnd : ∀ q ∈ tl, NdOk n (d.noted r) q) (htl : tl.length ≤ 200000) (hse : r.se.length = n) (hnu : r.nu.length ≤ n) :
    Calls Tryz.prog 93 #[ptr p, .int .i32 (k : Int)] w (LsPost B τ w p n (d.noted r) (oth x) tl) := by
  have hB : B ≤ w.heap.size := by obtain ⟨pcs, s⟩ := h; exact s.base
  have hn := L.nb
  have CG := Lib.hid (gather_any h L hk hkb hc htr hdp hB G)
  have LN := Lib.hid (L.noted hse hnu)
  have HLS := Lib.hid hls
  have HND := Lib.hid hnd
  clear h L hk hc htr G hls hnd hse hnu
  go_enter Tryz.func93, Tryz.ntmps93
  go_wp2_with fail
  (with_reducible refine CG.out.mono ?_)
  rintro e w1 ⟨τ1, A1, cap, rfl, s1, r1, o1, t1⟩
  rw [HLS.out] at r1 o1 ⊢
  obtain ⟨g, rfl⟩ : ∃ g, A1 = some ⟨g, 0, none⟩ := by
    rcases r1.at with ⟨_, h⟩ | ⟨g, cap', cur, h0, _⟩
    · simp at h
    · injection h0 with h0 _ _; exact ⟨g, h0⟩
  have hgw := o1 g rfl
  have r1 : RowN τ1 0 w1 138 1 (.slice (some ⟨g, 0, none⟩) (tl.length + 1) cap) (tl.length + 1) (n32 (oth x :: tl)) := r1
  rw [List.length_cons]
  have CS := Lib.hid (shorter_any s1 LN.out r1 htl HND.out)
  have T1 := Lib.hid t1
  have hcap : cap ≤ 9223372036854775807 := by
    rcases r1.at with ⟨_, h⟩ | ⟨g', cap', cur, h0, hb, h1, h2, _⟩
    · omega
    · injection h0 with _ _ h5; subst h5; exact h2
  have hcap0 : tl.length + 1 ≤ cap := by
    rcases r1.at with ⟨_, h⟩ | ⟨g', cap', cur, h0, hb, h1, h2, _⟩
    · omega
    · injection h0 with _ _ h5; subst h5; exact h1
  clear s1 r1 o1 t1 CG
  go_wp2_with fail
  (with_reducible refine CS.out.mono ?_)
  rintro e w2 ⟨rfl, s2, r2, st2⟩
  obtain ⟨K, hK⟩ : ∃ K, kp (d.noted r) tl = K := ⟨_, rfl⟩
  have hKl : K.length ≤ tl.length := by rw [← hK]; exact kp_len _ _
  rw [hK] at r2 ⊢
  have HKE := Lib.hid hK
  have R0 : Hid (LsR B τ1 w1 p n (d.noted r) (oth x) g cap K.length K K 2 w2) := ⟨s2, r2, st2, rfl, List.Perm.refl _, fun q1 h1 j q hj hq => by
    obtain rfl : j = 0 := by omega
    rw [h1] at hq; injection hq with hq; rw [hq]; exact Nat.le_refl _⟩
  have HEND := Lib.hid (show ∀ (M : List Nat) (W : World), LsR B τ1 w1 p n (d.noted r) (oth x) g cap K.length K M (K.length + 1) W ∨ (K.length < 2 ∧ LsR B τ1 w1 p n (d.noted r) (oth x) g cap K.length K M 2 W) → LsPost B τ w p n (d.noted r) (oth x) tl (.returned (.slice (some ⟨g, 0, none⟩) (K.length + 1) cap)) W from fun M W hM => by
    have key : ∀ j, LsR B τ1 w1 p n (d.noted r) (oth x) g cap K.length K M j W → K.length + 1 ≤ j → LsPost B τ w p n (d.noted r) (oth x) tl (.returned (.slice (some ⟨g, 0, none⟩) (K.length + 1) cap)) W := fun j R hj => by
      have hg : τ1 g = 0 := R.row.2 g rfl
      refine ⟨τ1, g, cap, M, by rw [R.len], R.R, by rw [R.len]; exact R.row, hgw, ?_, by rw [HKE.out]; exact R.pm, fun q1 h1 q hq => ?_⟩
      · have st := R.S
        exact ⟨⟨st.os.trans T1.out.kept.os, st.tape.trans T1.out.kept.tape, st.output.trans T1.out.kept.output, Nat.le_trans T1.out.kept.size st.size, fun b hb hn => (st.block b (Nat.lt_of_lt_of_le hb T1.out.kept.size) (by omega)).trans (T1.out.kept.block b hb hn)⟩, T1.out.tag⟩
      · obtain ⟨jj, hjj⟩ := List.getElem?_of_mem hq
        have := (List.getElem?_eq_some_iff.1 hjj).1
        exact R.mx q1 h1 jj q (by have := R.len; omega) hjj
    rcases hM with h | ⟨h1, h⟩
    · exact key _ h (Nat.le_refl _)
    · by_cases e : K.length = 0
      · exact key _ h (by omega)
      · exact key _ h (by omega))
  clear s2 r2 st2 CS hK
  go_wp2_with fail
  go_loopw [6] (fun iv wr => ∃ (j : Nat) (M : List Nat), 2 ≤ j ∧ (j = 2 ∨ j ≤ K.length + 1) ∧ iv = .int .i64 j ∧ Hid (LsR B τ1 w1 p n (d.noted r) (oth x) g cap K.length K M j wr)) (fun iv _ => K.length + 1 - (intOf iv).toNat)
  case atStart => exact ⟨2, K, Nat.le_refl _, .inl rfl, rfl, R0⟩
  case round =>
    obtain ⟨j, M, hj2, hj3, rfl, R⟩ := hrel
    clear R0
    by_cases hlt : j < K.length + 1
    · have hml := R.out.len
      obtain ⟨q1, hq1⟩ : ∃ q, M[0]? = some q := ⟨_, List.getElem?_eq_getElem (by omega)⟩
      obtain ⟨q, hq⟩ : ∃ q, M[j - 1]? = some q := ⟨_, List.getElem?_eq_getElem (by omega)⟩
      have hin : ∀ q, q ∈ M → q < 2 * n := fun q hq => by
        have h1 := R.out.pm.mem_iff.1 hq
        rw [← HKE.out] at h1
        exact (HND.out q (List.mem_filter.1 h1).1).1
      have hq1n := hin q1 (List.mem_of_getElem? hq1)
      have hqn := hin q (List.mem_of_getElem? hq)
      have x1 : wr.cell? ⟨g, 1, none⟩ = some (.int .i32 (q1 : Int)) := R.out.row.cell (by show (n32 (oth x :: M))[1]? = _; simp [n32, hq1])
      have xj : wr.cell? ⟨g, j, none⟩ = some (.int .i32 (q : Int)) := R.out.row.cell (by
        obtain ⟨j', rfl⟩ : ∃ j', j = j' + 1 := ⟨j - 1, by omega⟩
        show (n32 (oth x :: M))[j' + 1]? = _
        have hq : M[j']? = some q := hq
        simp [n32, hq])
      have hfr : ∀ k, wr.frozen? ⟨g, k, none⟩ = false := by
        rcases R.out.row.at with ⟨_, h1⟩ | ⟨g', cap', cur, h0, hb, _⟩
        · omega
        · injection h0 with h0 _ _; injection h0 with h0; injection h0 with h0; subst h0; exact hb.free
      have zg := lt_of_cell x1
      have hdl : d.dp.length = n := LN.out.dp
      obtain ⟨g6, c6, a6⟩ := R.out.R.at_dp (by show 0 < d.dp.length; omega)
      obtain ⟨y1, hy1⟩ : ∃ y, d.dp[q1 / 2]? = some y := ⟨_, List.getElem?_eq_getElem (by omega)⟩
      obtain ⟨y, hy⟩ : ∃ y, d.dp[q / 2]? = some y := ⟨_, List.getElem?_eq_getElem (by omega)⟩
      have f6 : wr.cell? ⟨p, 6, none⟩ = some (.slice (some ⟨g6, 0, none⟩) d.dp.length c6) := a6.len_dp.1
      have l6 : d.dp.length ≤ c6 := a6.len_dp.2
      have k6 := a6.cap
      have z1 := a6.dp hy1
      have z2 := a6.dp hy
      have zp := R.out.R.plt
      have z6 := a6.lt
      have HD1 := Lib.hid (show dpt d.dp q1 = y1 from dpt_of hy1)
      have HD2 := Lib.hid (show dpt d.dp q = y from dpt_of hy)
      have CN1 := Lib.hid (fun W => lnum_any q1 W (by omega))
      have CN2 := Lib.hid (fun W => lnum_any q W (by omega))
      have e1 : q1 / 2 < d.dp.length := by omega
      have e2 : q / 2 < d.dp.length := by omega
      have HQ1 := Lib.hid hq1
      have HQ := Lib.hid hq
      obtain ⟨v1, hv1⟩ : ∃ v, q1 / 2 = v := ⟨_, rfl⟩
      obtain ⟨v, hv⟩ : ∃ v, q / 2 = v := ⟨_, rfl⟩
      rw [hv1] at CN1 z1 e1
      rw [hv] at CN2 z2 e2
      have b1 : (j : Int) < (K.length : Int) + 1 := by omega
      have b2 : (0 : Int) ≤ (j : Int) := by omega
      have b3 : (1 : Int) < (K.length : Int) + 1 := by omega
      have b4 : (v1 : Int) < (d.dp.length : Int) := by omega
      have b5 : (v : Int) < (d.dp.length : Int) := by omega
      have b6 : (0 : Int) ≤ (v1 : Int) := by omega
      have b7 : (0 : Int) ≤ (v : Int) := by omega
      have n0 : ¬ K = [] := fun e => by rw [e] at b3; simp at b3
      have hlj : (K.length + 1 : Nat) = K.length + 1 := rfl
      clear hq1 hq hin a6 hy1 hy hml hv1 hv HND HKE HEND
      by_cases hyy : y1 < y
      · have d1 : (y1 : Int) < (y : Int) := by omega
        have HN := Lib.hid (show ∀ W : World, Below wr.heap.size wr W → LsR B τ1 w1 p n (d.noted r) (oth x) g cap K.length K ((M.set 0 q).set (j - 1) q1) (j + 1) ((W.setCell ⟨g, 1, none⟩ (.int .i32 (q : Int))).setCell ⟨g, j, none⟩ (.int .i32 (q1 : Int))) from fun W b => (R.out.below b).swap HQ1.out hj2 HQ.out (by rw [show dpt (d.noted r).dp q1 = y1 from HD1.out, show dpt (d.noted r).dp q = y from HD2.out]; exact hyy))
        have nj : ¬ j = 1 := by omega
        clear R hyy
        go_wp2_with fail
        go_quiet (first
          | (go_at_call 90; with_reducible exact calm_one CN1.out)
          | (go_at_call 90; with_reducible exact calm_one CN2.out)
          | (go_at_call 90; with_reducible exact calm_two CN1.out)
          | (go_at_call 90; with_reducible exact calm_two CN2.out))
        go_wp2_with fail
        go_region
        go_wp2_with fail
        go_roundw
        case rel => exact ⟨j + 1, _, by omega, .inr (by omega), by go_num, HN.out (wr.drewN _) (Below.draws (Below.refl _ _) _)⟩
        case measure => simp [intOf]; omega
      · have d1 : ¬ (y1 : Int) < (y : Int) := by omega
        have HN := Lib.hid (show ∀ W : World, Below wr.heap.size wr W → LsR B τ1 w1 p n (d.noted r) (oth x) g cap K.length K M (j + 1) W from fun W b => (R.out.below b).stay HQ1.out hj2 HQ.out (by rw [show dpt (d.noted r).dp q1 = y1 from HD1.out, show dpt (d.noted r).dp q = y from HD2.out]; omega))
        clear R hyy
        go_wp2_with fail
        go_quiet (first
          | (go_at_call 90; with_reducible exact calm_one CN1.out)
          | (go_at_call 90; with_reducible exact calm_one CN2.out)
          | (go_at_call 90; with_reducible exact calm_two CN1.out)
          | (go_at_call 90; with_reducible exact calm_two CN2.out))
        go_wp2_with fail
        go_roundw
        case rel => exact ⟨j + 1, M, by omega, .inr (by omega), by go_num, HN.out _ (Below.draws (Below.refl _ _) _)⟩
        case measure => simp [intOf]; omega
    · have HE := Lib.hid (HEND.out M wr (by
        rcases hj3 with rfl | h
        · by_cases e : K.length + 1 = 2
          · left; rw [e]; exact R.out
          · right; exact ⟨by omega, R.out⟩
        · left
          rw [show K.length + 1 = j by omega]; exact R.out))
      have b1 : ¬ (j : Int) < (K.length : Int) + 1 := by omega
      clear R HEND
      go_wp2_with fail
      go_ret
      exact HE.out
end
end Go.Proofs.YtpmdnbdmocdngaaGreat

namespace Go.Proofs.YtpmdnbdmocdngaaGreat
open Go.ChangeShapes Go.WideShapes Go.ChangeAt Go.RowKit
set_option linter.unusedVariables false
set_option linter.unusedSimpArgs false

/-- The queue with other scores: the same numbers wait. -/
def QSc (B : Nat) (τ : Nat → Nat) (w : World) (p n : Nat) (d : Sd) (w' : World) : Prop :=
  ∃ hp' pl' sc' ra', Sr B τ w' p n { d with hp := hp', pl := pl', sc := sc', ra := ra' } ∧ Stp τ τ w w' ∧ QOk n hp' pl' ∧ sc'.length = n ∧ (∀ u, u ∈ hp' ↔ u ∈ d.hp) ∧ w'.cell? ⟨p, 14, none⟩ = w.cell? ⟨p, 14, none⟩
structure LoR (B : Nat) (τ : Nat → Nat) (w : World) (p n : Nat) (d : Sd) (wr : World) (hp' : List Nat) (pl' sc' : List Int) (ra' : Int) : Prop where
  sr : Sr B τ wr p n { d with hp := hp', pl := pl', sc := sc', ra := ra' }
  st : Stp τ τ w wr
  q : QOk n hp' pl'
  sl : sc'.length = n
  m : ∀ u, u ∈ hp' ↔ u ∈ d.hp
  c4 : wr.cell? ⟨p, 14, none⟩ = w.cell? ⟨p, 14, none⟩
section
variable {B : Nat} {τ : Nat → Nat} {w : World} {p n : Nat} {d : Sd}
set_option maxHeartbeats 1600000 in
theorem qlower_any (h : Sr B τ w p n d) (hq : QOk n d.hp d.pl) (hn : n ≤ 65536) (hsc : d.sc.length = n) :
    Calls Tryz.prog 130 #[qp p] w fun e w' => e = .returned (.tuple #[]) ∧ QSc B τ w p n d w' := by
  have f12 := h.get_ra
  have zp := h.plt
  have rp := h.pfree
  obtain ⟨A, cs, f11, hA⟩ := h.head_sc
  have HST := Lib.hid (show ∀ x : Int, LoR B τ w p n d (w.setCell ⟨p, 12, none⟩ (.int .i64 x)) d.hp d.pl d.sc x from fun x => ⟨(h.set_ra x).1, (h.set_ra x).2, hq, hsc, fun u => Iff.rfl, World.cell?_setCell_other w ⟨p, 12, none⟩ ⟨p, 14, none⟩ _ (by intro e; injection e with _ e; omega)⟩)
  have hsn : d.sc.length < 100000 := by omega
  clear h hq
  have HSC := Lib.hid hsc
  clear hsc
  go_enter Tryz.func130, Tryz.ntmps130
  go_wp2_with fail
  go_loopw [16] (fun iv wr => ∃ (k : Nat) (sc' : List Int) (x : Int), k ≤ d.sc.length ∧ iv = .int .i64 k ∧ LoR B τ w p n d wr d.hp d.pl sc' x) (fun iv _ => d.sc.length - (intOf iv).toNat)
  case atStart => exact ⟨0, _, _, by omega, rfl, HST.out _⟩
  case round =>
    obtain ⟨k, sc', x, hk, rfl, hrel⟩ := hrel
    have R := Lib.hid hrel
    clear hrel
    by_cases hlt : k < d.sc.length
    · have hsl : k < sc'.length := by have := R.out.sl; have := HSC.out; omega
      obtain ⟨g, c, a⟩ := R.out.sr.at_sc (by show 0 < sc'.length; omega)
      obtain ⟨y, hy⟩ : ∃ y, sc'[k]? = some y := ⟨_, List.getElem?_eq_getElem hsl⟩
      have f := a.len_sc.1
      have l := a.len_sc.2
      have kc := a.cap
      have xk := a.sc hy
      have z := a.lt
      have zw := R.out.sr.plt
      have fr := a.free
      have HP := Lib.hid (show ∀ v : Int, LoR B τ w p n d (wr.setCell ⟨g, k, none⟩ (.int .i64 v)) d.hp d.pl (sc'.set k v) x from fun v => ⟨(R.out.sr.put_sc a hsl v).1, R.out.st.trans (R.out.sr.put_sc a hsl v).2, R.out.q, by rw [List.length_set]; exact R.out.sl, R.out.m, (World.cell?_of_block (set_other (p := ⟨g, k, none⟩) a.ne.symm)).trans R.out.c4⟩)
      clear a hy
      go_wp2_with fail
      go_roundw
      case rel => exact ⟨k + 1, _, _, by omega, by go_num, HP.out _⟩
      case measure => simp [intOf]; omega
    · obtain rfl : k = d.sc.length := by omega
      obtain ⟨A2, c2, f9, hA2⟩ := R.out.sr.head_hp
      have hle := R.out.q.le
      have HR0 := Lib.hid (show LoR B τ w p n d wr d.hp d.pl sc' x from R.out)
      have hd := Int.tdiv_eq_ediv_of_nonneg (a := (d.hp.length : Int)) (b := 2) (by omega)
      have hlb : (d.hp.length : Int) ≤ 65536 := by omega
      obtain ⟨hf, hhf⟩ : ∃ z : Nat, z = d.hp.length / 2 := ⟨_, rfl⟩
      have hd2 : (d.hp.length : Int).tdiv 2 = (hf : Int) := by rw [hd]; omega
      have hfb : hf ≤ 65536 := by omega
      have HHF := Lib.hid (show hf ≤ d.hp.length by omega)
      have hw1 : IntKind.i64.wrap ((hf : Int) - 1) = (hf : Int) - 1 := IntWalk.i64_in _ (by omega)
      have f9' : wr.cell? ⟨p, 9, none⟩ = some (.slice A2 d.hp.length c2) := f9
      have zw := R.out.sr.plt
      clear R hd f9 hhf
      go_wp2_with fail
      go_loopw [3] (fun iv wr => ∃ (k : Nat) (hp' : List Nat) (pl' : List Int), k ≤ hf ∧ iv = .int .i64 ((k : Int) - 1) ∧ hp'.length = d.hp.length ∧ LoR B τ w p n d wr hp' pl' sc' x) (fun iv _ => (intOf iv + 1).toNat)
      case atStart => exact ⟨hf, _, _, by omega, rfl, rfl, HR0.out⟩
      case round =>
        obtain ⟨k, hp', pl', hk, rfl, hhl, hrel⟩ := hrel
        have R := Lib.hid hrel
        have HHL := Lib.hid hhl
        clear hrel hhl
        by_cases hk0 : 0 < k
        · obtain ⟨j, rfl⟩ : ∃ j, k = j + 1 := ⟨k - 1, by omega⟩
          have hj1 : ((j + 1 : Nat) : Int) - 1 = (j : Int) := by omega
          rw [hj1]
          have hjl : j < hp'.length := by have := HHL.out; have := HHF.out; omega
          have hjb : j < 65536 := by omega
          obtain ⟨g, c, a⟩ := R.out.sr.at_hp (by show 0 < hp'.length; omega)
          obtain ⟨v, hv⟩ : ∃ y, hp'[j]? = some y := ⟨_, List.getElem?_eq_getElem hjl⟩
          have f := a.len_hp.1
          have l := a.len_hp.2
          have kc := a.cap
          have xk := a.hp hv
          have z := a.lt
          have zw2 := R.out.sr.plt
          obtain ⟨q1, q2⟩ := R.out.q.hole hv
          have HM := Lib.hid q2
          have CD := Lib.hid (qdown_any R.out.sr (i := j) (v := v) q1 hn (by show hp'.length ≤ n; exact R.out.q.le) (by show sc'.length = n; exact R.out.sl))
          clear a hv q1 q2
          go_wp2_with fail
          (with_reducible refine CD.out.mono ?_)
          rintro e w2 ⟨rfl, hp2, pl2, q1, q2, q3, q4, q5⟩
          have R2 : Hid (hp2.length = d.hp.length ∧ LoR B τ w p n d w2 hp2 pl2 sc' x) := ⟨q4.trans HHL.out, q1, R.out.st.trans (Stp.of_step q2 (by decide)), q3, R.out.sl, fun u => (q5 u).trans ((HM.out u).trans (R.out.m u)), (World.cell?_of_block (q2.kept.block p R.out.sr.plt (by rw [show τ p = 1 by obtain ⟨pcs, s⟩ := R.out.sr; exact s.blk.2]; decide))).trans R.out.c4⟩
          clear q1 q2 q3 q4 q5
          go_wp2_with fail
          go_roundw
          case rel => exact ⟨j, hp2, pl2, by omega, by go_num, R2.out.1, R2.out.2⟩
          case measure => simp [intOf]
        · obtain rfl : k = 0 := by omega
          have HQ : Hid (QSc B τ w p n d wr) := ⟨hp', pl', sc', x, R.out.sr, R.out.st, R.out.q, R.out.sl, R.out.m, R.out.c4⟩
          rw [show (((0 : Nat) : Int) - 1) = -1 from rfl]
          go_wp2_with fail
          go_end0
          exact ⟨rfl, HQ.out⟩
abbrev Rs (r : Nat) : Prop := r = 11 ∨ r = 12 ∨ r = 13
structure PrR (B : Nat) (τ : Nat → Nat) (w : World) (p n : Nat) (d : Sd) (wr : World) (hp' : List Nat) (pl' sc' : List Int) : Prop where
  sr : Sr B τ wr p n { d with hp := hp', pl := pl', sc := sc' }
  st : Step Rs τ τ w wr
  q : QOk n hp' pl'
  sl : sc'.length = n
  m : ∀ u, u ∈ hp' ↔ u ∈ d.hp
theorem PrR.alike {wr W : World} {hp' : List Nat} {pl' sc' : List Int} (h : PrR B τ w p n d wr hp' pl' sc') (he : W.heap = wr.heap) (h1 : W.os = wr.os) (h2 : W.tape = wr.tape) (h3 : W.output = wr.output) : PrR B τ w p n d W hp' pl' sc' :=
  ⟨h.sr.alike he h1 h2 h3, h.st.alike he h1 h2 h3, h.q, h.sl, h.m⟩
theorem PrR.up {wr w2 : World} {hp' : List Nat} {pl' sc' : List Int} {j v : Nat} (h : PrR B τ w p n d wr hp' pl' sc') (hm : ∀ u, Wh hp' j v u ↔ u ∈ hp') (k : QDone B τ wr p n { d with hp := hp', pl := pl', sc := sc' } (Wh hp' j v) w2) : ∃ hp2 pl2, PrR B τ w p n d w2 hp2 pl2 sc' := by
  obtain ⟨hp2, pl2, q1, q2, q3, q4, q5⟩ := k
  exact ⟨hp2, pl2, q1, h.st.trans (q2.mono fun r hr => hr.imp id .inl), q3, h.sl, fun u => (q5 u).trans ((hm u).trans (h.m u))⟩
set_option maxHeartbeats 1600000 in
theorem qprefer_any (h : Sr B τ w p n d) (hq : QOk n d.hp d.pl) (hn : n ≤ 65536) (hsc : d.sc.length = n) (hnu : ∀ u ∈ d.nu, u < n) (hnl : d.nu.length ≤ 100000) {A : Option Addr} {cap : Nat} (hA : w.cell? ⟨p, 14, none⟩ = some (.slice A d.nu.length cap)) :
    Calls Tryz.prog 95 #[qp p, .slice A d.nu.length cap] w fun e w' => e = .returned (.tuple #[]) ∧ QSc B τ w p n d w' := by
  have HNU := Lib.hid (show ∀ (k u : Nat), d.nu[k]? = some u → u < n ∧ ∃ g, A = some ⟨g, 0, none⟩ ∧ τ g = 16 ∧ w.cell? ⟨g, k, none⟩ = some (.int .i32 (u : Int)) ∧ g < w.heap.size ∧ d.nu.length ≤ cap ∧ cap ≤ 9223372036854775807 from fun k u hu => by
    refine ⟨hnu u (List.mem_of_getElem? hu), ?_⟩
    obtain ⟨g, c, a⟩ := h.at_nu (by have := (List.getElem?_eq_some_iff.1 hu).1; omega)
    have h1 := a.len_nu.1
    rw [hA] at h1
    injection h1 with h1; injection h1 with h1 _ h2
    subst h1; subst h2
    exact ⟨g, rfl, a.role, a.nu hu, a.lt, a.len_nu.2, a.cap⟩)
  have H0 := Lib.hid (show PrR B τ w p n d w d.hp d.pl d.sc from ⟨h, Step.refl _ _ _, hq, hsc, fun u => Iff.rfl⟩)
  have HP1 := Lib.hid (show p < w.heap.size ∧ τ p = 1 from ⟨h.plt, by obtain ⟨pcs, s⟩ := h; exact s.blk.2⟩)
  clear h hq hsc hnu hA
  go_enter Tryz.func95, Tryz.ntmps95
  go_wp2_with fail
  go_loopw [9] (fun iv wr => ∃ (k : Nat) (hp' : List Nat) (pl' sc' : List Int), k ≤ d.nu.length ∧ iv = .int .i64 k ∧ PrR B τ w p n d wr hp' pl' sc') (fun iv _ => d.nu.length - (intOf iv).toNat)
  case atStart => exact ⟨0, _, _, _, by omega, rfl, H0.out⟩
  case round =>
    obtain ⟨k, hp', pl', sc', hk, rfl, hrel⟩ := hrel
    have R := Lib.hid hrel
    clear hrel
    by_cases hlt : k < d.nu.length
    · obtain ⟨v, hv⟩ : ∃ v, d.nu[k]? = some v := ⟨_, List.getElem?_eq_getElem hlt⟩
      obtain ⟨hvn, gn, rfl, hro, hcn, hgn, hca, hcb⟩ := HNU.out k v hv
      have xn : wr.cell? ⟨gn, k, none⟩ = some (.int .i32 (v : Int)) := (World.cell?_of_block (R.out.st.kept.block gn hgn (by rw [hro]; decide))).trans hcn
      have zn : gn < wr.heap.size := Nat.lt_of_lt_of_le hgn R.out.st.kept.size
      have hvs : v < sc'.length := by have := R.out.sl; omega
      have hvp : v < pl'.length := by have := R.out.q.len; omega
      obtain ⟨g, c, a⟩ := R.out.sr.at_sc (by show 0 < sc'.length; omega)
      obtain ⟨y, hy⟩ : ∃ y, sc'[v]? = some y := ⟨_, List.getElem?_eq_getElem hvs⟩
      have f := a.len_sc.1
      have l := a.len_sc.2
      have kc := a.cap
      have xk := a.sc hy
      have z := a.lt
      have fr := a.free
      have f12 : wr.cell? ⟨p, 12, none⟩ = some (.int .i64 d.ra) := R.out.sr.get_ra
      have zw := R.out.sr.plt
      have HP := Lib.hid (show ∀ x : Int, PrR B τ w p n d (wr.setCell ⟨g, v, none⟩ (.int .i64 x)) hp' pl' (sc'.set v x) from fun x => ⟨(R.out.sr.put_sc a hvs x).1, R.out.st.trans (Step.set _ _ (.inr (.inr a.role))), R.out.q, by rw [List.length_set]; exact R.out.sl, R.out.m⟩)
      clear a hy hv hcn
      go_wp2_with fail
      go_region
      generalize wrap64 (y + d.ra) = ns at *
      have R := Lib.hid ((HP.out ns).alike (W := (wr.setCell ⟨g, v, none⟩ (.int .i64 ns)).drew) rfl rfl rfl rfl)
      generalize (wr.setCell ⟨g, v, none⟩ (.int .i64 ns)).drew = W1 at *
      clear HP f l kc xk z fr f12 xn zn
      obtain ⟨g2, c2, a2⟩ := R.out.sr.at_pl (by show 0 < pl'.length; omega)
      have f := a2.len_pl.1
      have l := a2.len_pl.2
      have kc := a2.cap
      have z := a2.lt
      have zw1 := R.out.sr.plt
      by_cases hm : v ∈ hp'
      · obtain ⟨j, hj⟩ := List.getElem?_of_mem hm
        have xk := a2.pl (R.out.q.at_ j v hj).2
        have hjb : (j : Int) ≠ -1 := by omega
        have hjn : ((j : Int) == -1) = false := beq_eq_false_iff_ne.2 hjb
        have hjl : j < 65536 := by have := (List.getElem?_eq_some_iff.1 hj).1; have := R.out.q.le; omega
        have hcv : IntKind.i64.wrap (j : Int) = (j : Int) := IntWalk.i64_in _ (by omega)
        obtain ⟨q1, q2⟩ := R.out.q.hole hj
        have HM := Lib.hid q2
        have CU := Lib.hid (qup_any R.out.sr (i := j) (v := v) q1 hn (by show hp'.length ≤ n; exact R.out.q.le) (by show (sc'.set v ns).length = n; exact R.out.sl))
        clear a2 hm hj q1 q2
        go_wp2_with fail
        (with_reducible refine CU.out.mono ?_)
        rintro e w2 ⟨rfl, hd⟩
        obtain ⟨hp2, pl2, R2⟩ := R.out.up HM.out hd
        have R2 := Lib.hid R2
        clear hd
        go_wp2_with fail
        go_roundw
        case rel => exact ⟨k + 1, hp2, pl2, _, by omega, by go_num, R2.out⟩
        case measure => simp [intOf]; omega
      · have xk := a2.pl (R.out.q.out v hvn hm)
        clear a2 hm
        go_wp2_with fail
        go_roundw
        case rel => exact ⟨k + 1, _, _, _, by omega, by go_num, R.out⟩
        case measure => simp [intOf]; omega
    · obtain rfl : k = d.nu.length := by omega
      have f12 : wr.cell? ⟨p, 12, none⟩ = some (.int .i64 d.ra) := R.out.sr.get_ra
      have zw := R.out.sr.plt
      have fr := R.out.sr.pfree
      have HSET := Lib.hid (show ∀ x : Int, Sr B τ (wr.setCell ⟨p, 12, none⟩ (.int .i64 x)) p n { d with hp := hp', pl := pl', sc := sc', ra := x } ∧ Stp τ τ w (wr.setCell ⟨p, 12, none⟩ (.int .i64 x)) from fun x => ⟨(R.out.sr.set_ra x).1, (Stp.of_step R.out.st (by decide)).trans (R.out.sr.set_ra x).2⟩)
      go_wp2_with fail
      go_region
      generalize wrap64 (d.ra + d.ra / 16) = x at *
      have HSR := Lib.hid ((HSET.out x).1.alike (W := (wr.setCell ⟨p, 12, none⟩ (.int .i64 x)).drew) rfl rfl rfl rfl)
      have HST := Lib.hid ((HSET.out x).2.alike (W := (wr.setCell ⟨p, 12, none⟩ (.int .i64 x)).drew) rfl rfl rfl rfl)
      have HQ := Lib.hid R.out.q
      have HL := Lib.hid R.out.sl
      have HM := Lib.hid R.out.m
      have H14 := Lib.hid (show (wr.setCell ⟨p, 12, none⟩ (.int .i64 x)).drew.cell? ⟨p, 14, none⟩ = w.cell? ⟨p, 14, none⟩ from (World.cell?_setCell_other wr ⟨p, 12, none⟩ ⟨p, 14, none⟩ _ (by intro e; injection e with _ e; omega)).trans (World.cell?_of_block (R.out.st.kept.block p HP1.out.1 (by rw [HP1.out.2]; decide))))
      have f12' : (wr.setCell ⟨p, 12, none⟩ (.int .i64 x)).drew.cell? ⟨p, 12, none⟩ = some (.int .i64 x) := World.cell?_setCell_same _ _ _ f12
      clear HSET R f12 fr
      generalize (wr.setCell ⟨p, 12, none⟩ (.int .i64 x)).drew = W2 at *
      have zw2 := HSR.out.plt
      by_cases hx : 72057594037927936 < x
      · have CL := Lib.hid (qlower_any HSR.out HQ.out hn HL.out)
        go_wp2_with fail
        (with_reducible refine CL.out.mono ?_)
        rintro e w2 ⟨rfl, hp2, pl2, sc2, ra2, q1, q2, q3, q4, q5, q6⟩
        have HQ2 : Hid (QSc B τ w p n d w2) := ⟨hp2, pl2, sc2, ra2, q1, HST.out.trans q2, q3, q4, fun u => (q5 u).trans (HM.out u), q6.trans H14.out⟩
        clear q1 q2 q3 q4 q5 q6
        go_wp2_with fail
        go_end0
        exact ⟨rfl, HQ2.out⟩
      · have hx' : x ≤ 72057594037927936 := by omega
        have HQ2 : Hid (QSc B τ w p n d W2) := ⟨_, _, _, x, HSR.out, HST.out, HQ.out, HL.out, HM.out, H14.out⟩
        clear hx
        go_wp2_with fail
        go_end0
        exact ⟨rfl, HQ2.out⟩
end
end Go.Proofs.YtpmdnbdmocdngaaGreat
