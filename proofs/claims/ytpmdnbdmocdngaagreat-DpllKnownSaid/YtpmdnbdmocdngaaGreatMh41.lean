/-
  Parts of the proof, joined: DpllSm, DpllRu, DpllNx, UnitB.
-/
import Derived.Test.YtpmdnbdmocdngaaGreatMh34
import Derived.Test.YtpmdnbdmocdngaaGreatMh37
import Derived.Test.YtpmdnbdmocdngaaGreatMh40
import Derived.Test.YtpmdnbdmocdngaaGreatMh30
import Derived.Test.YtpmdnbdmocdngaaGreatMh09
import Derived.Deep.LoopGhost
import Derived.ProofKit
import Derived.JoinedCond

namespace Go.Proofs.YtpmdnbdmocdngaaGreat
open Go.RowKit
set_option linter.unusedVariables false
set_option linter.unusedSimpArgs false

section
variable {n f0 : Nat} {d d0 : Sd} {K0 : Nat → Prop} {Mo : (Nat → Bool) → Prop} {f : List (List Int)} {t w0 : List Int}
/-- A search that is ready begins. -/
theorem Rdy.rn (R : Rdy n K0 Mo d) (hc : d.cls.length ≤ f0) : Rn n K0 Mo d f0 0 0 d := by
  have hl : lob 1 = 1 := by decide +kernel
  refine ⟨⟨R.I, fun k c i x hk hi hx hj => ?_, R.Q, R.C, R.lk, R.gq, R.se, R.nu, R.dpn⟩, ⟨by rw [R.pc]; decide, by rw [R.pc, R.pu]; decide, by rw [R.pc]; omega, ⟨1, 0, 0, by rw [R.pt]; rfl, by rw [R.pu]; rfl, Nat.le_refl _, Nat.one_le_two_pow, by rw [hl]; decide, Nat.le_add_left _ _, by rw [R.pc]; rfl⟩, by rw [R.le]; decide, by rw [R.le]; omega, by rw [R.mo]; exact ⟨by decide, by decide⟩, by omega⟩, Keeps.refl _, Nat.zero_le _, id⟩
  obtain ⟨j, hj, _⟩ := hj
  rw [R.nx] at hj; omega
/-- The truths that are answered. -/
def trs (wo' : List Int) (n : Nat) : List Bool := (List.range n).map fun v => decide (v < n) && decide (wo'[2 * v]? = some 1)
theorem trs_len (wo' : List Int) (n : Nat) : (trs wo' n).length = n := by simp [trs]
theorem trs_arr (wo' : List Int) (n : Nat) : trArr wo' n n = ((trs wo' n).map Value.bool).toArray := by
  unfold trArr trs
  rw [List.map_map]; rfl
theorem trs_at (wo' : List Int) {n v : Nat} (h : v < n) : (trs wo' n)[v]? = some (decide (wo'[2 * v]? = some 1)) := by
  unfold trs
  rw [List.getElem?_map, List.getElem?_range h]
  simp [h]
theorem trs_holds (T : Wo n d.wo) {x : Int} (ok : LOk n x) (h : wv d.wo (litOf x) = 1) : wo (uOf (trs d.wo n)) x = 1 := by
  obtain ⟨i, hi, e⟩ := ok.form
  have hw : d.wo[2 * i]? = some (wv d.wo (2 * i)) := wv_at (by rw [T.len]; omega)
  rcases e with rfl | rfl
  · have e : litOf ((i : Int) + 1) = 2 * i := by unfold litOf; rw [if_neg (by omega)]; omega
    rw [e] at h
    rw [wo_pos, u_at (trs_at d.wo hi), hw, h]; rfl
  · have e : litOf (-((i : Int) + 1)) = 2 * i + 1 := by unfold litOf; rw [if_pos (by omega)]; omega
    rw [e] at h
    have e2 : oth (2 * i) = 2 * i + 1 := by unfold oth; rw [if_pos (by omega)]
    have h3 := T.opp (2 * i) (by omega)
    rw [e2, h] at h3
    rw [wo_neg, u_at (trs_at d.wo hi), hw, show wv d.wo (2 * i) = -1 by omega]; rfl
theorem full_one {bs : List Bool} (hb : bs.length = n) {x : Int} (ok : LOk n x) : wo (uOf bs) x = 1 ∨ wo (uOf bs) x = -1 := by
  obtain ⟨i, hi, e⟩ := ok.form
  obtain ⟨b, hbi⟩ : ∃ b, bs[i]? = some b := ⟨_, List.getElem?_eq_getElem (by omega)⟩
  rcases e with rfl | rfl
  · rw [wo_pos, u_at hbi]; cases b <;> simp
  · rw [wo_neg, u_at hbi]; cases b <;> simp
/-- All claims hold: so does the formula. -/
theorem sat_eval (okf : FOk n f) (hn : n ≤ 65536) (T : Tl n (K0of w0) d) (C : Cov (K0of w0) d0 f) (K : Keeps d0.cls d.cls) (H : ∀ c ∈ d.cls, ∃ q ∈ c.ls, wv d.wo q = 1) : evalM (trs d.wo n) f = true := by
  refine (eval_iff (trs_len _ _) okf hn).2 fun c hc => ?_
  have hm := row_mems (okf c hc) hn
  rcases C c hc with h | ⟨x, hx, h⟩ | ⟨k, cl, hk, h0, hl⟩
  · obtain ⟨i, x, y, hx, hy, e⟩ := taut_iff.1 h
    have hx := (hm x).1 (List.mem_of_getElem? hx)
    have hy := (hm y).1 (List.mem_of_getElem? hy)
    subst e
    have ok := okf c hc x hx
    rcases full_one (trs_len d.wo n) ok with e | e
    · exact ⟨x, hx, e⟩
    · exact ⟨-x, hy, by rw [wo_opp ok, e]; rfl⟩
  · have hx := (hm x).1 hx
    have ok := okf c hc x hx
    exact ⟨x, hx, trs_holds T.w ok ((T.one _ (litOf_lt ok.1 ok.2.1 ok.2.2)).2 (.inr h))⟩
  · obtain ⟨c', hc', _, hp⟩ := K cl (List.mem_of_getElem? hk) h0
    obtain ⟨q, hq, h1⟩ := H c' hc'
    obtain ⟨x, hx, rfl⟩ := hl q (hp.mem_iff.1 hq)
    have hx := (hm x).1 hx
    exact ⟨x, hx, trs_holds T.w (okf c hc x hx) h1⟩
/-- No truths for the search: none for the formula. -/
theorem unsat_eval (okf : FOk n f) (hn : n ≤ 65536) (A : Ans n f (List.replicate n 0) (some t)) (kn : Kn n t w0) (H : ∀ m, ¬ MoF n f w0 m) (bs : List Bool) (hb : bs.length = n) : evalM bs f = false := by
  cases he : evalM bs f with
  | false => rfl
  | true =>
    exfalso
    have ht := A.1
    have up : Up t (uOf bs) := A.2.2.2 _ (u_tv hb) (fun i x hx h0 => by
      rw [List.getElem?_replicate] at hx
      split at hx
      · injection hx with hx; exact absurd hx.symm h0
      · cases hx) (eval_rests hb okf hn he)
    obtain ⟨mm, hmm⟩ : ∃ mm : Nat → Bool, ∀ v, mm v = bs[v]?.getD false := ⟨fun v => bs[v]?.getD false, fun _ => rfl⟩
    have key : ∀ (v : Nat) (b : Bool), bs[v]? = some b → mm v = b := fun v b h => by rw [hmm, h]; rfl
    refine H mm ⟨fun c hc => ?_, fun q hq h1 => ?_⟩
    · obtain ⟨x, hx, e⟩ := (eval_iff hb okf hn).1 he c hc
      refine ⟨x, hx, ?_⟩
      obtain ⟨i, hi, e2⟩ := (okf c hc x hx).form
      obtain ⟨b, hbi⟩ : ∃ b, bs[i]? = some b := ⟨_, List.getElem?_eq_getElem (by omega)⟩
      rcases e2 with rfl | rfl
      · have e3 : litOf ((i : Int) + 1) = 2 * i := by unfold litOf; rw [if_neg (by omega)]; omega
        rw [wo_pos, u_at hbi] at e
        rw [e3]; unfold lt_
        rw [if_pos (by omega), show 2 * i / 2 = i by omega, key i b hbi]
        cases b with
        | true => rfl
        | false => cases e
      · have e3 : litOf (-((i : Int) + 1)) = 2 * i + 1 := by unfold litOf; rw [if_pos (by omega)]; omega
        rw [wo_neg, u_at hbi] at e
        rw [e3]; unfold lt_
        rw [if_neg (by omega), show (2 * i + 1) / 2 = i by omega, key i b hbi]
        cases b with
        | true => cases e
        | false => rfl
    · have hv : q / 2 < n := by omega
      obtain ⟨x, hx⟩ : ∃ x, t[q / 2]? = some x := ⟨_, List.getElem?_eq_getElem (by rw [ht.1]; exact hv)⟩
      obtain ⟨b, hbi⟩ : ∃ b, bs[q / 2]? = some b := ⟨_, List.getElem?_eq_getElem (by omega)⟩
      obtain ⟨a1, a2⟩ := kn.yes _ x hx
      show lt_ _ q = true
      unfold lt_
      by_cases hp : q % 2 = 0
      · rw [if_pos hp, key _ b hbi]
        rw [show 2 * (q / 2) = q by omega] at a1
        rw [wv_of a1] at h1
        subst h1
        have := up _ _ hx (by decide)
        rw [u_at hbi] at this
        cases b with
        | true => rfl
        | false => simp at this
      · rw [if_neg hp, key _ b hbi]
        rw [show 2 * (q / 2) + 1 = q by omega] at a2
        rw [wv_of a2] at h1
        have hx1 : x = -1 := by omega
        subst hx1
        have := up _ _ hx (by decide)
        rw [u_at hbi] at this
        cases b with
        | true => simp at this
        | false => rfl
/-- What Solve answers. -/
def SvPost (n : Nat) (f : List (List Int)) (b : Int) (w : World) (e : Ending) (w' : World) : Prop := Below w.heap.size w w' ∧
  ((∃ (m : List Bool) (g : Nat), e = .returned (.tuple #[.int .i64 1, .slice (some ⟨g, 0, none⟩) n n, .int .i64 0]) ∧ w.heap.size ≤ g ∧ HasB w' g 4 (m.map Value.bool).toArray ∧ m.length = n ∧ evalM m f = true) ∨
   (e = .returned (.tuple #[.int .i64 2, .slice none 0 0, .int .i64 0]) ∧ ∀ m : List Bool, m.length = n → evalM m f = false) ∨
   (e = .returned (.tuple #[.int .i64 3, .slice none 0 0, .int .i64 0]) ∧ grant n b ≠ 9223372036854775807 ∧ f ≠ [] ∧ [] ∉ f))
end
end Go.Proofs.YtpmdnbdmocdngaaGreat

namespace Go.Proofs.YtpmdnbdmocdngaaGreat
open Go.ChangeShapes Go.WideShapes Go.ChangeAt Go.RowKit
set_option linter.unusedVariables false
set_option linter.unusedSimpArgs false

section
variable {B : Nat} {τ : Nat → Nat} {w : World} {p n f0 : Nat} {d0 : Sd} {K0 : Nat → Prop} {Mo : (Nat → Bool) → Prop}
theorem TuRel.marks {d d' : Sd} (r : TuRel n d d') (h : 1 ≤ d.ma.length) : d'.ma.length < d.ma.length := by
  rcases r.go with ⟨_, _, _, _, g, _⟩ | ⟨_, _, _, _, g⟩
  · exact g
  · rw [g]; exact h
set_option maxHeartbeats 3200000 in
theorem drun_any (h : Sr B τ w p n d0) (R : Rn n K0 Mo d0 f0 0 0 d0) (hn : n ≤ 20) (hf : f0 ≤ 100000) (b0 : Int) (hb0 : 0 ≤ b0) (hb1 : b0 ≤ 9223372036854775807)
    (HST : Hid (∀ (τ8 : Nat → Nat) (W : World) (d8 d : Sd) (ct : Nat), Lub n f0 ct d → d.tr.length ≤ n → Sr B τ8 W p n d8 → Ru n K0 Mo d8 → 0 ≤ d8.le → d8.le ≤ d.le + 1 → d8.mo = d.mo → d8.cls.length ≤ d.cls.length + 1 → 0 < d8.cls.length → Calls Tryz.prog 101 #[ptr p] W (StPost B τ8 W p n K0 Mo d8))) :
    Calls Tryz.prog 31 #[ptr p, .int .i64 b0] w (RnPost B τ w p n K0 Mo d0 b0) := by
  have H0 : Hid (Sr B τ w p n d0 ∧ Stp τ τ w w ∧ Rn n K0 Mo d0 f0 0 0 d0) := ⟨h, Stp.refl _ _, R⟩
  clear h R
  go_enter Tryz.func31, Tryz.ntmps31
  go_wp2_with fail
  go_loopg [1] (2 * b0.toNat + d0.ma.length) (fun gg bv wr => ∃ (d : Sd) (τ' : Nat → Nat) (D ct : Nat), bv = .int .i64 (b0 - (D : Int)) ∧ (D : Int) ≤ b0 ∧ Hid (Sr B τ' wr p n d ∧ Stp τ τ' w wr ∧ Rn n K0 Mo d0 f0 D ct d) ∧ 2 * (b0 - (D : Int)).toNat + d.ma.length ≤ gg)
  case atStart => exact ⟨d0, τ, 0, 0, by simp, hb0, H0, by simp⟩
  case round =>
    obtain ⟨d, τ', D, ct, rfl, hD, R, hgg⟩ := hrel
    clear H0
    have CF := Lib.hid (dfollow_any R.out.1 R.out.2.2.ru.I R.out.2.2.ru.P R.out.2.2.ru.gq)
    go_wp2_with fail
    (with_reducible refine CF.out.mono ?_)
    rintro e w1 ⟨τ1, d1, s1, t1, v1, f1, g1, hr⟩
    have hma : d1.ma = d.ma := by
      obtain ⟨_, _, _, _, _, _, _, _, _, e⟩ := f1.same
      rw [e]
    rcases hr with ⟨rfl, hx, pr⟩ | ⟨k, c, gone, rfl, cf⟩
    · have R1 := Lib.hid (R.out.2.2.follow f1 v1 pr g1)
      have S1 := Lib.hid s1
      have T1 := Lib.hid (R.out.2.1.trans t1)
      have CP := Lib.hid (pick_any s1 v1.L R1.out.ru.Q)
      clear s1 t1 f1 v1 pr g1 CF
      go_wp2_with fail
      (with_reducible refine CP.out.mono ?_)
      rintro e w2 ⟨τ2, hp2, pl2, s2, t2, q2, m2, hr⟩
      rcases hr with ⟨rfl, hno⟩ | ⟨v, rfl, hv, hv0, hvo⟩
      · have HE : Hid (RnPost B τ w p n K0 Mo d0 b0 (.returned (.int .i64 1)) w2) := ⟨τ2, _, s2, T1.out.trans t2, (R1.out.ru.I.queue hp2 pl2).L, (R1.out.ru.I.queue hp2 pl2).T, .inl ⟨rfl, R1.out.kp, R1.out.ru.sat hx hno⟩⟩
        clear s2 t2 q2 m2 hno CP
        go_wp2_with fail
        go_ret
        exact HE.out
      · have kn : ((v : Int) == -1) = false := beq_eq_false_iff_ne.2 (by omega)
        have kn2 : ¬ (v : Int) = -1 := by omega
        by_cases hb : (D : Int) = b0
        · have HE : Hid (RnPost B τ w p n K0 Mo d0 b0 (.returned (.int .i64 3)) w2) := ⟨τ2, _, s2, T1.out.trans t2, (R1.out.ru.I.queue hp2 pl2).L, (R1.out.ru.I.queue hp2 pl2).T, .inr (.inr ⟨rfl, by have := R1.out.few hn; omega, fun h => by
            obtain ⟨_, b⟩ := R1.out.nil h
            rw [b] at hv; cases hv⟩)⟩
          have b1 : b0 - (D : Int) = 0 := by omega
          rw [b1]
          clear s2 t2 q2 m2 hv0 hvo CP
          go_wp2_with fail
          go_ret
          exact HE.out
        · have hvn : v < n := by
            obtain ⟨j, hj⟩ := List.getElem?_of_mem hv
            exact (R1.out.ru.Q.at_ j v hj).1
          obtain ⟨q, hq, hq2⟩ := R1.out.ru.lk v hvn
          have hqn : q < 2 * n := by omega
          have h0 : wv d1.wo q = 0 := by
            have e0 := wv_of hv0
            by_cases hpar : q % 2 = 0
            · rw [show q = 2 * v by omega]; exact e0
            · have e1 : q = oth (2 * v) := by unfold oth; rw [if_pos (by omega)]; omega
              rw [e1, R1.out.ru.I.T.w.opp (2 * v) (by omega), e0]; rfl
          have R2 := Lib.hid (R1.out.decide hx q2 hqn hq2 hv h0 hvo)
          have CD := Lib.hid (fun (W : World) (S : Sr B τ2 W p n { d1 with hp := hp2, pl := pl2 }) => decide_any S (R1.out.ru.I.queue hp2 pl2).L (R1.out.ru.I.T.ma_lt hqn h0) hqn)
          have S2 := Lib.hid s2
          have T2 := Lib.hid (T1.out.trans t2)
          obtain ⟨g8, c8, a8⟩ := s2.at_lk (by show 0 < d1.lk.length; rw [R1.out.ru.I.L.lk]; omega)
          have f8 := a8.len_lk.1
          have l8 := a8.len_lk.2
          have k8 := a8.cap
          have x8 := a8.lk hq
          have z8 := a8.lt
          have zp := s2.plt
          have hb2 : ¬ b0 - (D : Int) = 0 := by omega
          have hb3 : (b0 - (D : Int) == 0) = false := beq_eq_false_iff_ne.2 hb2
          have hw : IntKind.i64.wrap (b0 - (D : Int) - 1) = b0 - (D : Int) - 1 := IntWalk.i64_in _ (by omega)
          have v1 : (0 : Int) ≤ (v : Int) := by omega
          have v2 : (v : Int) < (d1.lk.length : Int) := by rw [R1.out.ru.I.L.lk]; omega
          have hmm : d1.ma.length = d.ma.length := by rw [hma]
          have HMM := Lib.hid hmm
          clear hmm hma s2 t2 q2 m2 hv0 hvo CP a8 hq hq2 hv h0 S1 T1
          go_wp2_with fail
          (with_reducible refine (CD.out w2 S2.out).mono ?_)
          rintro e w3 ⟨rfl, τ3, s3, t3⟩
          have R3 : Hid (Sr B τ3 w3 p n (({ d1 with hp := hp2, pl := pl2 } : Sd).decided q) ∧ Stp τ τ3 w w3 ∧ Rn n K0 Mo d0 f0 (D + 1) ct (({ d1 with hp := hp2, pl := pl2 } : Sd).decided q)) := ⟨s3, T2.out.trans t3, R2.out⟩
          have hml : (({ d1 with hp := hp2, pl := pl2 } : Sd).decided q).ma.length = d.ma.length + 1 := by
            show (d1.ma ++ [d1.tr.length]).length = _
            rw [List.length_append, HMM.out]; rfl
          have HML := Lib.hid hml
          clear s3 t3 CD hml S2 T2 R2 R1
          go_wp2_with fail
          go_roundg (2 * (b0 - (D : Int) - 1).toNat + d.ma.length + 1)
          case measure => omega
          case rel => exact ⟨_, τ3, D + 1, ct, by go_num, by omega, R3, by rw [HML.out]; omega⟩
    · by_cases hm0 : d1.ma = []
      · have HE : Hid (RnPost B τ w p n K0 Mo d0 b0 (.returned (.int .i64 2)) w1) := ⟨τ1, d1, s1, R.out.2.1.trans t1, v1.L, v1.T, .inr (.inl ⟨rfl, cf.unsat v1 hm0⟩)⟩
        obtain ⟨A4, c4, f4, _⟩ := s1.head_ma
        rw [hm0] at f4
        have f4 : w1.cell? ⟨p, 4, none⟩ = some (.slice A4 0 c4) := f4
        have zp := s1.plt
        have kn : ((k : Int) == -1) = false := beq_eq_false_iff_ne.2 (by omega)
        have kn2 : ¬ (k : Int) = -1 := by omega
        clear s1 t1 f1 v1 g1 cf CF hm0 hma
        go_wp2_with fail
        go_ret
        exact HE.out
      · have hL : 1 ≤ d1.ma.length := List.length_pos_iff.2 hm0
        obtain ⟨a, b, c', e', g', i'⟩ := R.out.2.2.ru.fol f1 v1
        have l1 := R.out.2.2.lub.follow f1
        have htop := l1.top hn v1.L.tr
        have hcb : d1.cls.length + 1 < 2147483648 := by have := l1.cl; omega
        have CT := Lib.hid (turn_any s1 v1 cf a b c' g1 e' g' i' hL (l1.pce hn v1.L.tr hf) l1.vb hcb (Lib.hid (fun τ8 W d8 x1 x2 x3 x4 x5 x6 x7 => HST.out τ8 W d8 d1 ct l1 v1.L.tr x1 x2 x3 x4 x5 x6 x7)))
        obtain ⟨A4, c4, f4o, _⟩ := s1.head_ma
        have zp := s1.plt
        have T1 := Lib.hid (R.out.2.1.trans t1)
        have F1 := Lib.hid f1
        have CFF := Lib.hid cf
        have HL := Lib.hid hL
        have hmm : d1.ma.length = d.ma.length := by rw [hma]
        have HMM := Lib.hid hmm
        obtain ⟨N, hN⟩ : ∃ N, d1.ma.length = N := ⟨_, rfl⟩
        have f4 : w1.cell? ⟨p, 4, none⟩ = some (.slice A4 N c4) := by rw [← hN]; exact f4o
        have hN0 : ¬ (N : Int) = 0 := by omega
        have hN1 : ((N : Int) == 0) = false := beq_eq_false_iff_ne.2 hN0
        have HN := Lib.hid hN
        have kn : ((k : Int) == -1) = false := beq_eq_false_iff_ne.2 (by omega)
        have kn2 : ¬ (k : Int) = -1 := by omega
        clear s1 t1 f1 v1 g1 cf CF hm0 hma a b c' e' g' i' l1 htop hcb hL hmm hN f4o
        go_wp2_with fail
        (with_reducible refine CT.out.mono ?_)
        rintro e w2 ⟨rfl, τ2, d2, s2, t2, ru2, r2⟩
        have hlt := r2.marks HL.out
        have hlt2 : d2.ma.length < d.ma.length := by rw [← HMM.out]; exact hlt
        have R2 : Hid (Sr B τ2 w2 p n d2 ∧ Stp τ τ2 w w2 ∧ Rn n K0 Mo d0 f0 D (ct + 1) d2) := ⟨s2, T1.out.trans t2, R.out.2.2.turn hn F1.out CFF.out ru2 r2⟩
        clear s2 t2 ru2 r2 CT
        go_wp2_with fail
        go_roundg (2 * (b0 - (D : Int)).toNat + d2.ma.length)
        case measure => omega
        case rel => exact ⟨d2, τ2, D, ct + 1, rfl, hD, R2, Nat.le_refl _⟩
end
end Go.Proofs.YtpmdnbdmocdngaaGreat

namespace Go.Proofs.YtpmdnbdmocdngaaGreat
open Go.ChangeShapes Go.WideShapes Go.ChangeAt Go.RowKit
set_option linter.unusedVariables false
set_option linter.unusedSimpArgs false

/-- What is known, as far as it was gone through. -/
structure KnR (τ : Nat → Nat) (w0 : World) (p n : Nat) (t : List Int) (k : Nat) (wo' : List Int) (lk : List Nat) (wr : World) : Prop where
  R : Sr w0.heap.size τ wr p n { dInit n with wo := wo', lk := lk }
  B : Below w0.heap.size w0 wr
  wl : wo'.length = 2 * n
  ll : lk.length = n
  yes : ∀ (v : Nat) (x : Int), v < k → t[v]? = some x → wo'[2 * v]? = some x ∧ wo'[2 * v + 1]? = some (-x)
  lik : ∀ v, v < k → lk[v]? = some (2 * v + 1)
section
variable {n : Nat} {f : List (List Int)} {t : List Int} {w : World}
set_option maxHeartbeats 6400000 in
set_option maxRecDepth 4000 in
theorem newSearch_any {A AK : Option Addr} {fcap kcap : Nat} (hf : FormAt w A f) (hok : FOk n f) (hfl : f.length ≤ 100000) (hcl : ∀ c ∈ f, c.length ≤ 100000) (hk : SeqAt (Value.int .i64) w AK t) (ht : TV n t) (hrest : Rest f t) (hn : n ≤ 65536) :
    Calls Tryz.prog 30 #[.slice A f.length fcap, .slice AK t.length kcap] w (NsPost n f t w) := by
  have htl := ht.1
  have HK := Lib.hid hk
  have HT := Lib.hid ht
  have HF := Lib.hid hf
  have HOK := Lib.hid hok
  have HR := Lib.hid hrest
  have HCL := Lib.hid hcl
  rw [htl]
  clear hk ht hf hok hrest hcl
  go_enter Tryz.func30, Tryz.ntmps30
  go_wp2_with fail
  refine nsregion (F := .slice A f.length fcap) (K := .slice AK n kcap) hn (fun a w1 hmid => ?_)
  obtain ⟨τ, v, p, rfl, hv, b1, hz, hp, hs⟩ := hmid
  unfold mkA
  rw [hv]
  have K0 : Hid (KnR τ w p n t 0 (dInit n).wo (dInit n).lk w1) := ⟨hs _ (Nat.le_refl _), b1, by simp [dInit], by simp [dInit], fun v x hv => by omega, fun v hv => by omega⟩
  clear hv b1 hs
  generalize v 0 = v0
  generalize v 1 = v1
  generalize v 2 = v2
  generalize v 3 = v3
  generalize v 4 = v4
  generalize v 5 = v5
  generalize v 6 = v6
  generalize v 7 = v7
  generalize v 8 = v8
  generalize v 9 = v9
  generalize v 10 = v10
  generalize v 11 = v11
  generalize v 12 = v12
  generalize v 13 = v13
  generalize v 14 = v14
  generalize v 15 = v15
  generalize v 16 = v16
  generalize v 17 = v17
  generalize v 18 = v18
  clear v
  go_wp2_with fail
  go_loopw [34] (fun iv wr => ∃ (k : Nat) (τ' : Nat → Nat) (wo' : List Int) (lk : List Nat), k ≤ n ∧ iv = .int .i64 k ∧ Hid (KnR τ' w p n t k wo' lk wr)) (fun iv _ => n - (intOf iv).toNat)
  case atStart => exact ⟨0, τ, _, _, Nat.zero_le _, rfl, K0⟩
  case round =>
    obtain ⟨k, τ', wo', lk, hkn, rfl, R⟩ := hrel
    clear K0
    by_cases hlt : k < n
    · obtain ⟨x, hx⟩ : ∃ x, t[k]? = some x := ⟨_, List.getElem?_eq_getElem (by omega)⟩
      obtain ⟨a, rfl, hca⟩ := HK.out.get k x hx
      have za : a.block < w.heap.size := by have := lt_of_cell hca; rwa [add_block] at this
      have xk : wr.cell? (a.add k) = some (.int .i64 x) := (R.out.B.cell (p := a.add k) (by rw [add_block]; exact za)).trans hca
      have hxr := HT.out.2 k x hx
      have HX := Lib.hid hx
      obtain ⟨g2, c2, a2⟩ := R.out.R.at_wo (by show 0 < wo'.length; rw [R.out.wl]; omega)
      have hwl := R.out.wl
      obtain ⟨y1, hy1⟩ : ∃ y, wo'[2 * k]? = some y := ⟨_, List.getElem?_eq_getElem (by omega)⟩
      obtain ⟨y2, hy2⟩ : ∃ y, wo'[2 * k + 1]? = some y := ⟨_, List.getElem?_eq_getElem (by omega)⟩
      have f2 := a2.len_wo.1
      have l2 : wo'.length ≤ c2 := a2.len_wo.2
      have k2 := a2.cap
      have x1 := a2.wo hy1
      have x2 := a2.wo hy2
      have r2 := a2.free
      have z2 := a2.lt
      have zp := R.out.R.plt
      have n2 := a2.ne
      have f2' : wr.cell? ⟨p, 2, none⟩ = some (.slice (some ⟨g2, 0, none⟩) wo'.length c2) := f2
      have b1 : (0 : Int) ≤ (k : Int) := by omega
      have b2 : (k : Int) < (n : Int) := by omega
      have b3 : 2 * (k : Int) < (wo'.length : Int) := by omega
      have b4 : 2 * (k : Int) + 1 < (wo'.length : Int) := by omega
      have w1 : IntKind.i64.wrap (2 * (k : Int)) = 2 * (k : Int) := by rw [IntKind.wrap_i64]; omega
      have w2 : IntKind.i64.wrap (2 * (k : Int) + 1) = 2 * (k : Int) + 1 := by rw [IntKind.wrap_i64]; omega
      obtain ⟨y, hy⟩ : ∃ y, -x = y := ⟨_, rfl⟩
      have w3 : IntKind.i64.wrap y = y := by rw [IntKind.wrap_i64]; omega
      have w4 : IntKind.i8.wrap y = y := by rw [← hy]; rcases hxr with h | h | h <;> rw [h] <;> rfl
      have w5 : IntKind.i8.wrap x = x := by rcases hxr with h | h | h <;> rw [h] <;> rfl
      have t2 : (2 * (k : Int)).toNat = 2 * k := by omega
      have t3 : (2 * (k : Int) + 1).toNat = 2 * k + 1 := by omega
      have s1 := R.out.R.put_wo a2 (by show 2 * k < wo'.length; omega) x
      obtain ⟨g3, c3, a3⟩ := s1.1.at_wo (by show 0 < (wo'.set _ _).length; rw [List.length_set]; omega)
      have eg : g3 = g2 := by
        have e := a3.head
        rw [(World.cell?_of_block (set_other (p := ⟨g2, 2 * k, none⟩) n2.symm)).trans a2.head] at e
        injection e with e; injection e with e _ e3; injection e with e; injection e with e
        exact e.symm
      subst eg
      have s2 := s1.1.put_wo a3 (by show 2 * k + 1 < (wo'.set _ _).length; rw [List.length_set]; omega) y
      have HA := Lib.hid (And.intro s2.1 (s1.2.trans s2.2))
      have HY := Lib.hid hy
      have HK2 := Lib.hid (show g3 ≠ p from n2)
      clear a2 a3 s1 s2 hca hx hy1 hy2 hxr
      go_wp2_with fail
      go_region
      have R2 := Lib.hid (show Sr w.heap.size τ' ((wr.setCell ⟨g3, 2 * k, none⟩ (.int .i8 x)).setCell ⟨g3, 2 * k + 1, none⟩ (.int .i8 y)).drew p n { dInit n with wo := (wo'.set (2 * k) x).set (2 * k + 1) y, lk := lk } from HA.out.1.alike rfl rfl rfl rfl)
      have T2 := Lib.hid (HA.out.2.alike (W := ((wr.setCell ⟨g3, 2 * k, none⟩ (.int .i8 x)).setCell ⟨g3, 2 * k + 1, none⟩ (.int .i8 y)).drew) rfl rfl rfl rfl)
      generalize ((wr.setCell ⟨g3, 2 * k, none⟩ (.int .i8 x)).setCell ⟨g3, 2 * k + 1, none⟩ (.int .i8 y)).drew = W1 at *
      clear HA f2 l2 k2 x1 x2 r2 z2 zp n2 f2' b3 b4 w1 w2 w3 w4 w5 t2 t3 xk za
      obtain ⟨g8, c8, a8⟩ := R2.out.at_lk (by show 0 < lk.length; rw [R.out.ll]; omega)
      have hll := R.out.ll
      obtain ⟨y8, hy8⟩ : ∃ y, lk[k]? = some y := ⟨_, List.getElem?_eq_getElem (by omega)⟩
      have f8 : W1.cell? ⟨p, 8, none⟩ = some (.slice (some ⟨g8, 0, none⟩) lk.length c8) := a8.len_lk.1
      have l8 : lk.length ≤ c8 := a8.len_lk.2
      have k8 := a8.cap
      have x8 := a8.lk hy8
      have r8 := a8.free
      have z8 := a8.lt
      have n8 := a8.ne
      have zp := R2.out.plt
      have b3 : (k : Int) < (lk.length : Int) := by omega
      obtain ⟨m, hm⟩ : ∃ m : Int, -(k : Int) = m := ⟨_, rfl⟩
      have w1 : IntKind.i64.wrap m = m := by rw [IntKind.wrap_i64]; omega
      have w2 : IntKind.i64.wrap (m - 1) = m - 1 := by rw [IntKind.wrap_i64]; omega
      have hlo : litOf (m - 1) = 2 * k + 1 := by unfold litOf; rw [if_pos (by omega)]; omega
      have CL := Lib.hid (show ∀ W : World, Calls Tryz.prog 62 #[.int .i64 (m - 1)] W fun e w' => e = .returned (.int .i32 ((2 * k + 1 : Nat) : Int)) ∧ W = w' from fun W => by rw [← hlo]; exact lit_any (m - 1) W (by omega) (by omega) (by omega))
      have s8 := R2.out.put_lk a8 (i := k) (by show k < lk.length; omega) (2 * k + 1)
      have HB := Lib.hid s8
      have K8 : ∀ (W : World) (o : Nat) (u : Value), W.cell? ⟨p, 8, none⟩ = some (.slice (some ⟨g8, 0, none⟩) lk.length c8) → (W.setCell ⟨g8, o, none⟩ u).cell? ⟨p, 8, none⟩ = some (.slice (some ⟨g8, 0, none⟩) lk.length c8) := fun W o u h => (World.cell?_of_block (set_other (p := ⟨g8, o, none⟩) n8.symm)).trans h
      obtain ⟨q8, hq8⟩ : ∃ q8 : Int, ((2 * k + 1 : Nat) : Int) = q8 := ⟨_, rfl⟩
      rw [hq8] at CL HB
      clear a8 hy8 s8 hlo hq8
      go_wp2_with fail
      go_region_held3 (fun w' => w'.cell? ⟨p, 8, none⟩ = some (.slice (some ⟨g8, 0, none⟩) lk.length c8)) (first | go_keep | (exact K8 _ _ _ (by assumption))) ((go_at_call 62; (with_reducible refine (CL.out _).mono ?_); rintro e we ⟨rfl, rfl⟩))
      have HN : Hid (KnR τ' w p n t (k + 1) ((wo'.set (2 * k) x).set (2 * k + 1) y) (lk.set k (2 * k + 1)) (W1.setCell ⟨g8, k, none⟩ (.int .i32 q8)).drew) := by
        refine ⟨HB.out.1.alike rfl rfl rfl rfl, ?_, by rw [List.length_set, List.length_set]; exact hwl, by rw [List.length_set]; exact hll, fun v z hv hz => ?_, fun v hv => ?_⟩
        · have st := (T2.out.trans HB.out.2).alike (W := (W1.setCell ⟨g8, k, none⟩ (.int .i32 q8)).drew) rfl rfl rfl rfl
          have hlow : ∀ b, b < w.heap.size → τ' b = 0 := by obtain ⟨pcs, s⟩ := R.out.R; exact s.low
          exact R.out.B.trans (st.below R.out.B.size hlow)
        · by_cases e : v = k
          · subst e
            rw [HX.out] at hz; injection hz with hz; subst hz
            rw [HY.out]
            exact ⟨by rw [List.getElem?_set_ne (by omega)]; exact List.getElem?_set_self (by omega), List.getElem?_set_self (by rw [List.length_set]; omega)⟩
          · obtain ⟨a, b⟩ := R.out.yes v z (by omega) hz
            exact ⟨by rw [List.getElem?_set_ne (by omega), List.getElem?_set_ne (by omega)]; exact a, by rw [List.getElem?_set_ne (by omega), List.getElem?_set_ne (by omega)]; exact b⟩
        · by_cases e : v = k
          · subst e; exact List.getElem?_set_self (by omega)
          · rw [List.getElem?_set_ne (fun e' => e e'.symm)]; exact R.out.lik v (by omega)
      clear R R2 T2 HB K8 hm
      go_wp2_with fail
      go_roundw
      case rel => exact ⟨k + 1, τ', _, _, by omega, by go_num, HN⟩
      case measure => simp [intOf]; omega
    · obtain rfl : k = n := by omega
      have KN := Lib.hid (show Kn k t wo' from ⟨R.out.wl, fun v x hx => R.out.yes v x (by have := (List.getElem?_eq_some_iff.1 hx).1; omega) hx⟩)
      have RD := Lib.hid (rdy0 (f := f) (lk := lk) KN.out HT.out hn R.out.ll (fun v hv => ⟨2 * v + 1, R.out.lik v hv, by omega⟩))
      have R1 := Lib.hid R.out.R
      have B1 := Lib.hid R.out.B
      obtain ⟨dd, hdd⟩ : ∃ dd : Sd, dd = { dInit k with wo := wo', lk := lk } := ⟨_, rfl⟩
      have D0 : Hid (Sr w.heap.size τ' wr p k dd ∧ Below w.heap.size w wr ∧ Rdy k (K0of wo') (MoF k f wo') dd ∧ dd.wo = wo' ∧ Cov (K0of wo') dd (f.take 0) ∧ dd.cls.length ≤ 0) := by
        rw [hdd]
        exact ⟨R1.out, B1.out, RD.out, rfl, fun c hc => by simp at hc, Nat.le_refl _⟩
      clear hdd
      clear R RD R1 B1
      go_wp2_with fail
      go_loopw [72] (fun iv wr => ∃ (i : Nat) (τ' : Nat → Nat) (d : Sd), i ≤ f.length ∧ iv = .int .i64 i ∧ Hid (Sr w.heap.size τ' wr p k d ∧ Below w.heap.size w wr ∧ Rdy k (K0of wo') (MoF k f wo') d ∧ d.wo = wo' ∧ Cov (K0of wo') d (f.take i) ∧ d.cls.length ≤ i)) (fun iv _ => f.length - (intOf iv).toNat)
      case atStart => exact ⟨0, τ', dd, Nat.zero_le _, rfl, D0⟩
      case round =>
        obtain ⟨i, τ2, d, hi, rfl, D⟩ := hrel
        clear D0
        by_cases hlt : i < f.length
        · obtain ⟨c, hc⟩ : ∃ c, f[i]? = some c := ⟨_, List.getElem?_eq_getElem hlt⟩
          obtain ⟨a, C, ccap, rfl, hce, hs, _⟩ := HF.out.get i c hc
          have za := HF.out.lt a rfl
          have xi : wr.cell? (a.add i) = some (.slice C c.length ccap) := (D.out.2.1.cell (p := a.add i) (by rw [add_block]; exact za)).trans hce
          have hmem := List.mem_of_getElem? hc
          have hrm := row_mems (HOK.out c hmem) hn
          have CT := Lib.hid (take_any D.out.1 D.out.2.2.1 (A := C) (c := c) (cap := ccap) (hs.keep D.out.2.1) (HF.out.wf c hmem) (HCL.out c hmem) (fun x hx => HOK.out c hmem x ((hrm x).1 hx)) (by
            right
            rcases HR.out c hmem with ⟨x, hx, h1⟩ | ⟨x, hx, y, hy, hne, h1, h2⟩
            · exact .inl ⟨x, (hrm x).2 hx, by rw [D.out.2.2.2.1, KN.out.val (HOK.out c hmem x hx) htl]; exact h1⟩
            · right
              have ox := HOK.out c hmem x hx
              have oy := HOK.out c hmem y hy
              have := nodup_sub [litOf x, litOf y] (opn d.wo (row c)) (by simp; exact fun e => hne (litOf_inj ox.1 oy.1 e)) (fun z hz => by
                rcases List.mem_cons.1 hz with rfl | hz
                · exact List.mem_map.2 ⟨x, List.mem_filter.2 ⟨(hrm x).2 hx, by rw [D.out.2.2.2.1, KN.out.val ox htl]; simpa using h1⟩, rfl⟩
                · obtain rfl := List.mem_singleton.1 hz
                  exact List.mem_map.2 ⟨y, List.mem_filter.2 ⟨(hrm y).2 hy, by rw [D.out.2.2.2.1, KN.out.val oy htl]; simpa using h2⟩, rfl⟩)
              simpa using this) (fun m hm => by
            obtain ⟨l, hl, h1⟩ := hm.1 c hmem
            exact .inr ⟨l, (hrm l).2 hl, h1⟩) (fun m hm q hq hk => hm.2 q hq hk) (by have := D.out.2.2.2.2.2; omega))
          have HC := Lib.hid hc
          have b1 : (0 : Int) ≤ (i : Int) := by omega
          have b2 : (i : Int) < (f.length : Int) := by omega
          clear hc hs hmem hrm hce
          go_wp2_with fail
          (with_reducible refine CT.out.mono ?_)
          rintro e w3 ⟨rfl, τ3, d3, s3, t3, r3, e3, k3⟩
          have HN : Hid (Sr w.heap.size τ3 w3 p k d3 ∧ Below w.heap.size w w3 ∧ Rdy k (K0of wo') (MoF k f wo') d3 ∧ d3.wo = wo' ∧ Cov (K0of wo') d3 (f.take (i + 1)) ∧ d3.cls.length ≤ i + 1) := by
            have hlow : ∀ b, b < w.heap.size → τ2 b = 0 := by obtain ⟨pcs, s⟩ := D.out.1; exact s.low
            refine ⟨s3, D.out.2.1.trans (t3.below D.out.2.1.size hlow), r3, e3.trans D.out.2.2.2.1, ?_, ?_⟩
            · obtain ⟨h1, h2⟩ := List.getElem?_eq_some_iff.1 HC.out
              rw [List.take_succ_eq_append_getElem h1, h2]
              exact D.out.2.2.2.2.1.take D.out.2.2.2.1 k3
            · have := D.out.2.2.2.2.2
              rcases k3 with ⟨e, _⟩ | ⟨ls, fr, e, _⟩
              · rw [e]; omega
              · rw [e, List.length_append]; simp; omega
          clear s3 t3 r3 e3 k3 D CT
          go_wp2_with fail
          go_roundw
          case rel => exact ⟨i + 1, τ3, d3, by omega, by go_num, HN⟩
          case measure => simp [intOf]; omega
        · obtain rfl : i = f.length := by omega
          have HE : Hid (NsPost k f t w (.returned (ptr p)) wr) := ⟨τ2, p, d, wo', rfl, KN.out, D.out.1, D.out.2.1, D.out.2.2.1, D.out.2.2.2.1, by have := D.out.2.2.2.2.1; rwa [List.take_length] at this, D.out.2.2.2.2.2⟩
          go_wp2_with fail
          go_ret
          exact HE.out
end
end Go.Proofs.YtpmdnbdmocdngaaGreat

namespace Go.Proofs.YtpmdnbdmocdngaaGreat
open Go.ChangeShapes Go.WideShapes Go.ChangeAt Go.RowKit
set_option linter.unusedVariables false

theorem own : ownKnob Tryz.prog.godebug = none := by kernel_rfl
theorem cellsInt : Tryz.prog.cellsOf 3 = 1 := by kernel_rfl
theorem cellsRow : Tryz.prog.cellsOf 36 = 1 := by kernel_rfl
theorem bulk_pos {H : Type} (d : DataW H) : 1 ≤ Rows.uptoBulk d := by
  cases d <;> (try (rename_i l; cases l)) <;> simp [Rows.uptoBulk]
theorem bulk_len {H : Type} (l : List (DataW H)) : l.length ≤ Rows.uptoBulkAll l := by
  induction l with
  | nil => simp
  | cons d l ih => have := bulk_pos d; simp only [Rows.uptoBulkAll, List.length_cons]; omega
theorem bulk_mem {H : Type} {l : List (DataW H)} {d : DataW H} (h : d ∈ l) : Rows.uptoBulk d ≤ Rows.uptoBulkAll l := by
  induction l with
  | nil => cases h
  | cons e l ih =>
    simp only [Rows.uptoBulkAll]
    rcases List.mem_cons.1 h with rfl | h
    · omega
    · have := ih h; omega
section
variable {H : Type} {enc : TypeId × Value → H} {P : Program} {W : World}
theorem len_bulk {t e : TypeId} (ht : P.underlying t = some (.slice e)) (hc : P.cellsOf e = 1) {v : Value} {d : DataW H} {p : List MemPlace} (h : DataW.Trod enc P W 0 (fun _ => true) true t v d p) :
    ∀ A n c, v = .slice A n c → n ≤ Rows.uptoBulk d := by
  intro A n c hv
  obtain ⟨fuel, hf⟩ := h
  rcases Deep.open_slice1 ht hc hf with ⟨h0, _⟩ | ⟨a, len, cap, m, n', V, D, Pl, h1, _, hl, hm, hmm, hx, _⟩
  · subst hv
    simp [Value.cells] at h0
    omega
  · subst hv
    simp only [Value.cells, List.cons.injEq, and_true] at h1
    injection h1 with h1 h2 h3
    subst h2
    simp only [Prod.mk.injEq] at hx
    rw [hx.1]
    have := bulk_len ((List.range n).map D)
    simp only [List.length_map, List.length_range] at this
    simp only [Rows.uptoBulk]
    omega
theorem row_bulk {t e q : TypeId} (ht : P.underlying t = some (.slice e)) (he : P.underlying e = some (.slice q)) (hc : P.cellsOf e = 1) (hq : P.cellsOf q = 1) {v : Value} {d : DataW H} {p : List MemPlace} (h : DataW.Trod enc P W 0 (fun _ => true) true t v d p) :
    ∀ (a : Addr) n c, v = .slice (some a) n c → ∀ (i : Nat) B m k, i < n → W.cell? (a.add i) = some (.slice B m k) → m ≤ Rows.uptoBulk d := by
  intro a n c hv i B m k hi hcell
  obtain ⟨fuel, hf⟩ := h
  rcases Deep.open_slice1 ht hc hf with ⟨h0, _⟩ | ⟨a', len, cap, m', n', V, D, Pl, h1, _, hl, hm, hmm, hx, hr⟩
  · subst hv
    simp [Value.cells] at h0
  · subst hv
    simp only [Value.cells, List.cons.injEq, and_true] at h1
    injection h1 with h1 h2 h3
    injection h1 with h1
    subst h1; subst h2
    rw [if_pos rfl] at hmm
    obtain ⟨g1, g2⟩ := hr i (by omega)
    rw [hcell] at g1
    injection g1 with g1
    have hi2 : Rows.uptoBulk (D i) ≤ Rows.uptoBulkAll ((List.range n).map D) := bulk_mem (List.mem_map.2 ⟨i, List.mem_range.2 hi, rfl⟩)
    simp only [Prod.mk.injEq] at hx
    have hd : Rows.uptoBulkAll ((List.range n).map D) ≤ Rows.uptoBulk d := by rw [hx.1]; simp only [Rows.uptoBulk]; omega
    have := len_bulk (W := W) (enc := enc) (v := V i) (d := D i) (p := Pl i) he hq ⟨n', by rw [← g1] at g2 ⊢; simpa [Value.cells] using g2⟩ B m k g1.symm
    omega
/-- A formula of an argument, of a bounded size. -/
def FormB (W : World) (v : Value) : Prop := ∃ (A : Option Addr) (f : List (List Int)) (cap : Nat), v = .slice A f.length cap ∧ FormAt W A f ∧ f.length ≤ 1048576 ∧ ∀ c ∈ f, c.length ≤ 1048576
theorem form_b {base : Nat} {t e q : TypeId} (ht : P.underlying t = some (.slice e)) (he : P.underlying e = some (.slice q)) (hq : P.underlying q = some (.int .i64)) (ce : P.cellsOf e = 1) (cq : P.cellsOf q = 1) {v : Value} {d : DataW H} {p : List MemPlace}
    (hok : Value.okWide P W .any base t v) (h : DataW.Trod enc P W 0 (fun _ => true) true t v d p) (hb : Rows.uptoBulk d ≤ 1048576) : FormB W v := by
  obtain ⟨A, f, cap, hv, hf, _⟩ := form_open ht he hq ce cq hok h
  refine ⟨A, f, cap, hv, hf, Nat.le_trans (len_bulk ht ce h A _ _ hv) hb, fun c hc => ?_⟩
  obtain ⟨i, hi⟩ := List.mem_iff_getElem?.1 hc
  obtain ⟨a, B, ccap, ha, hcell, _, _⟩ := hf.get i c hi
  subst ha
  exact Nat.le_trans (row_bulk ht he ce cq h a _ _ hv i B _ _ (List.getElem?_eq_some_iff.1 hi).1 hcell) hb
end
end Go.Proofs.YtpmdnbdmocdngaaGreat
