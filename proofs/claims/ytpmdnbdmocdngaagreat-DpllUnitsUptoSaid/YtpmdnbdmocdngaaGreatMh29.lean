/-
  Parts of the proof, joined: DpllTu.
-/
import Derived.Test.YtpmdnbdmocdngaaGreatMh25
import Derived.Test.YtpmdnbdmocdngaaGreatMh27
import Derived.Test.YtpmdnbdmocdngaaGreatMh28

namespace Go.Proofs.YtpmdnbdmocdngaaGreat
open Go.ChangeShapes Go.WideShapes Go.ChangeAt Go.RowKit
set_option linter.unusedVariables false
set_option linter.unusedSimpArgs false

/-- The formula's claims are kept. -/
def Keeps (a b : List Cl) : Prop := ∀ c ∈ a, c.sp = 0 → ∃ c' ∈ b, c'.sp = 0 ∧ c'.ls.Perm c.ls
theorem Keeps.refl (a : List Cl) : Keeps a a := fun c hc h => ⟨c, hc, h, List.Perm.refl _⟩
theorem Keeps.trans {a b c : List Cl} (h : Keeps a b) (k : Keeps b c) : Keeps a c := fun x hx h0 => by
  obtain ⟨y, hy, hy0, p⟩ := h x hx h0
  obtain ⟨z, hz, hz0, q⟩ := k y hy hy0
  exact ⟨z, hz, hz0, q.trans p⟩
theorem Keeps.snoc (a : List Cl) (c : Cl) : Keeps a (a ++ [c]) := fun x hx h0 => ⟨x, List.mem_append_left _ hx, h0, List.Perm.refl _⟩
theorem CP.keeps {a b : List Cl} (h : CP a b) : Keeps a b := fun c hc h0 => by
  obtain ⟨k, hk⟩ := List.getElem?_of_mem hc
  obtain ⟨c', h1, h2, h3⟩ := h.get k c hk
  exact ⟨c', List.mem_of_getElem? h1, by rw [h3]; exact h0, h2⟩
/-- What starting over does. -/
structure StRel (d d' : Sd) : Prop where
  ma : d'.ma = []
  pc : d'.pc = d.pc
  pt : d'.pt = d.pt
  pu : d'.pu = d.pu
  le0 : 0 ≤ d'.le
  le : d'.le ≤ d.le ∨ d'.le ≤ d'.cls.length
  mo : d.mo ≤ d'.mo ∧ d'.mo ≤ d.mo + 500
  cls : d'.cls.length ≤ d.cls.length ∧ Keeps d.cls d'.cls
def StPost (B : Nat) (τ : Nat → Nat) (w : World) (p n : Nat) (K0 : Nat → Prop) (Mo : (Nat → Bool) → Prop) (d : Sd) (e : Ending) (w' : World) : Prop :=
  e = .returned (.tuple #[]) ∧ ∃ τ' d', Sr B τ' w' p n d' ∧ Stp τ τ' w w' ∧ Ru n K0 Mo d' ∧ StRel d d'
/-- How a turn leads on: either the search goes on where it is, or starts over. -/
structure TuRel (n : Nat) (d d' : Sd) : Prop where
  le0 : 0 ≤ d'.le
  le : d'.le ≤ d.le + 1 ∨ d'.le ≤ d'.cls.length
  mo : d.mo ≤ d'.mo ∧ d'.mo ≤ d.mo + 500
  cls : d'.cls.length ≤ d.cls.length + 1 ∧ Keeps d.cls d'.cls
  go : (d.pc + 1 < 128 * d.pu ∧ d'.pc = d.pc + 1 ∧ d'.pt = d.pt ∧ d'.pu = d.pu ∧ d'.ma.length < d.ma.length ∧ vl n d.ma d.tr.length < vl n d'.ma d'.tr.length) ∨ (128 * d.pu ≤ d.pc + 1 ∧ d.pc + 1 < ((2 ^ n / 2 : Nat) : Int) ∧ d'.pc = 0 ∧ PNext d.pt d.pu d'.pt d'.pu ∧ d'.ma = [])
def TuPost (B : Nat) (τ : Nat → Nat) (w : World) (p n : Nat) (K0 : Nat → Prop) (Mo : (Nat → Bool) → Prop) (d : Sd) (e : Ending) (w' : World) : Prop :=
  e = .returned (.tuple #[]) ∧ ∃ τ' d', Sr B τ' w' p n d' ∧ Stp τ τ' w w' ∧ Ru n K0 Mo d' ∧ TuRel n d d'
/-- A block of one's own gets to be the search's. -/
theorem Stg.after {g : Nat} {τ τ1 τ2 : Nat → Nat} {w w1 w2 : World} (h : Stp τ τ1 w w1) (k : Stg g τ1 τ2 w1 w2) (hg : w.heap.size ≤ g) : Stp τ τ2 w w2 :=
  ⟨⟨k.os.trans h.kept.os, k.tape.trans h.kept.tape, k.output.trans h.kept.output, Nat.le_trans h.kept.size k.size, fun b hb hn => by
    have h0 : τ b = 0 := Classical.byContradiction hn
    exact (k.block b (Nat.lt_of_lt_of_le hb h.kept.size) (h.tag b hb h0) (by omega)).trans (h.kept.block b hb hn)⟩,
   fun b hb h0 => k.tag b (Nat.lt_of_lt_of_le hb h.kept.size) (h.tag b hb h0) (by omega)⟩
section
variable {B : Nat} {τ : Nat → Nat} {w : World} {p n : Nat} {d : Sd} {K0 : Nat → Prop} {Mo : (Nat → Bool) → Prop}
theorem Les.needs (v : Iv n K0 Mo d) {r : Nt} {x i : Nat} {tl : List Nat} (l : Les n Mo d r x i tl) : (∀ q ∈ tl, NdOk n (d.noted r) q) ∧ tl.length ≤ n ∧ r.nu.length ≤ n ∧ ∀ u ∈ r.nu, u < n := by
  have h1 : ∀ q ∈ tl, NdOk n (d.noted r) q := fun q hq => by
    obtain ⟨_, j, hj, hl, _⟩ := l.low q hq
    have hq2 := oth_lt (v.T.tl _ (List.mem_of_getElem? hj))
    rw [oth_oth] at hq2
    refine ⟨hq2, ?_⟩
    show ∃ z : Int, d.wy[q / 2]? = some z ∧ (z = -1 ∨ ∃ (k : Nat) (c : Cl), z = (k : Int) ∧ k < 2147483648 ∧ d.cls[k]? = some c ∧ CGood n c)
    rcases v.Y j _ hj hl with ⟨_, h⟩ | ⟨_, k, c, h, hk, _⟩
    · rw [oth_half] at h; exact ⟨_, h, .inl rfl⟩
    · rw [oth_half] at h
      have := (List.getElem?_eq_some_iff.1 hk).1
      have := v.hb
      exact ⟨_, h, .inr ⟨k, c, rfl, by omega, hk, v.cgood hk⟩⟩
  have h2 : ∀ u ∈ r.nu, u < n := fun u hu => by
    have := getD_lt ((l.nu u).1 hu)
    rw [l.len] at this; exact this
  refine ⟨h1, ?_, nodup_le n _ l.nd h2, h2⟩
  have := nodup_le n _ l.tnd fun u hu => by
    obtain ⟨q, hq, e⟩ := List.mem_map.1 hu
    have := (h1 q hq).1
    have e : q / 2 = u := e
    omega
  rw [List.length_map] at this; exact this
/-- What turn has made of the search when it comes to ask how many literals it learned. -/
structure Tu5 (B : Nat) (τ : Nat → Nat) (w : World) (p n : Nat) (K0 : Nat → Prop) (Mo : (Nat → Bool) → Prop) (d : Sd) (g cap : Nat) (z : Nat) (M : List Nat) (d5 : Sd) (τ5 : Nat → Nat) (W : World) : Prop where
  R : Sr B τ5 W p n d5
  T : Stp τ τ5 w W
  mid : Mid n K0 Mo d5 z M
  row : RowN τ5 0 W 138 1 (.slice (some ⟨g, 0, none⟩) (M.length + 1) cap) (M.length + 1) (n32 (z :: M))
  ge : w.heap.size ≤ g
  pc : d5.pc = d.pc + 1
  le : d5.le = d.le ∨ d5.le = d.le + 1
  pt : d5.pt = d.pt
  pu : d5.pu = d.pu
  mo : d5.mo = d.mo
  s : Same d d5
/-- What turn has made of the search when it comes to ask whether it starts over. -/
structure Tu7 (n : Nat) (d d' : Sd) : Prop where
  pc : d'.pc = d.pc + 1
  le : d'.le = d.le ∨ d'.le = d.le + 1
  pt : d'.pt = d.pt
  pu : d'.pu = d.pu
  mo : d'.mo = d.mo
  cls : d'.cls.length ≤ d.cls.length + 1 ∧ Keeps d.cls d'.cls
  ma : d'.ma.length < d.ma.length
  vl : vl n d.ma d.tr.length < vl n d'.ma d'.tr.length
  cge : d.cls.length ≤ d'.cls.length
theorem Tu7.no {d' : Sd} (u : Tu7 n d d') (hl : 0 ≤ d.le) (h : d.pc + 1 < 128 * d.pu) : TuRel n d d' :=
  ⟨by have := u.le; omega, .inl (by have := u.le; omega), by rw [u.mo]; omega, u.cls, .inl ⟨h, u.pc, u.pt, u.pu, u.ma, u.vl⟩⟩
theorem Tu7.over {d' d9 : Sd} (u : Tu7 n d d') (h : 128 * d.pu ≤ d.pc + 1) {pt' pu' : Int} (pn : PNext d'.pt d'.pu pt' pu') (hp : d.pc + 1 < ((2 ^ n / 2 : Nat) : Int)) (s : StRel { d' with pc := 0, pt := pt', pu := pu' } d9) : TuRel n d d9 := by
  have h1 := s.le
  have h2 := s.mo
  have h3 := s.cls
  have h4 := u.cls
  have h5 := u.le
  have h6 := u.mo
  refine ⟨s.le0, ?_, by rw [← h6]; exact h2, ⟨Nat.le_trans h3.1 h4.1, h4.2.trans h3.2⟩, .inr ⟨h, hp, s.pc, ?_, s.ma⟩⟩
  · rcases h1 with h1 | h1
    · left; have h1 : d9.le ≤ d'.le := h1; omega
    · exact .inr h1
  · rw [s.pt, s.pu, ← u.pt, ← u.pu]; exact pn
theorem vl_cap (n : Nat) (hn : 0 < n) (ma : List Nat) {len : Nat} (h : len ≤ n) : vl n ma len < 2 ^ n / 2 := by
  have := vl_lt n ma (a := 0) hn (Nat.zero_le _) h
  have e : vl n ma 0 = 0 := rfl
  rw [e, Nat.sub_zero] at this; omega
/-- The search's fields of which the middle does not speak. -/
theorem Tu5.unit {g cap z fr : Nat} {d5 : Sd} {τ5 : Nat → Nat} {W : World} {lk' hp' : List Nat} {pl' : List Int} (u : Tu5 B τ w p n K0 Mo d g cap z [] d5 τ5 W) (hm : d5.ma[0]? = some fr) : Tu7 n d ((d5.back 0 fr lk' hp' pl').held z (-1)) := by
  have e := u.s
  have hf := u.mid.two fr (List.mem_of_getElem? hm)
  have hv := vl_turn u.mid.I hm hf
  have hl := (List.getElem?_eq_some_iff.1 hm).1
  refine ⟨u.pc, u.le, u.pt, u.pu, u.mo, (show d5.cls.length ≤ _ ∧ Keeps d.cls d5.cls by rw [e.cls]; exact ⟨Nat.le_succ _, Keeps.refl _⟩), ?_, ?_, (show d.cls.length ≤ d5.cls.length by rw [e.cls]; exact Nat.le_refl _)⟩
  · show (d5.ma.take 0).length < _
    rw [← e.ma]; simpa using hl
  · show _ < vl n (d5.ma.take 0) ((d5.tr.take fr) ++ [z]).length
    rw [List.length_append, List.length_take, Nat.min_eq_left (by omega), ← e.ma, ← e.tr]
    exact hv
theorem Tu5.claim {g cap z m fr : Nat} {M : List Nat} {d5 : Sd} {τ5 : Nat → Nat} {W : World} {lk' hp' : List Nat} {pl' : List Int} (u : Tu5 B τ w p n K0 Mo d g cap z M d5 τ5 W) (hm : d5.ma[m]? = some fr) (sp : Int) (q1 : Nat) (va : Value) (k : Int) : Tu7 n d (((d5.back m fr lk' hp' pl').claimed (z :: M) sp z q1 va).held z k) := by
  have e := u.s
  have hf := u.mid.two fr (List.mem_of_getElem? hm)
  have hv := vl_turn u.mid.I hm hf
  have hl := (List.getElem?_eq_some_iff.1 hm).1
  refine ⟨u.pc, u.le, u.pt, u.pu, u.mo, (show (d5.cls ++ [(⟨z :: M, sp, 2⟩ : Cl)]).length ≤ _ ∧ Keeps d.cls (d5.cls ++ [(⟨z :: M, sp, 2⟩ : Cl)]) by rw [e.cls]; exact ⟨by simp, Keeps.snoc _ _⟩), ?_, ?_, (show d.cls.length ≤ (d5.cls ++ [(⟨z :: M, sp, 2⟩ : Cl)]).length by rw [e.cls]; simp)⟩
  · show (d5.ma.take m).length < _
    rw [← e.ma, List.length_take]; omega
  · show _ < vl n (d5.ma.take m) ((d5.tr.take fr) ++ [z]).length
    rw [List.length_append, List.length_take, Nat.min_eq_left (by omega), ← e.ma, ← e.tr]
    exact hv
set_option maxHeartbeats 800000 in
set_option maxRecDepth 4000 in
theorem turn_any (h : Sr B τ w p n d) (v : Iv n K0 Mo d) {k : Nat} {c : Cl} {gone : Nat} (cf : Cf n d k c gone) (C : Qc d) (Q : QOk n d.hp d.pl) (hlk : Likes n d.lk) (hgq : 2 * n ≤ d.gq) (hse : ∀ u, d.se.getD u false = false) (hnu : d.nu = []) (hdp : ∀ v ∈ d.dp, v ≤ n) (hL : 1 ≤ d.ma.length) (pc : Pce d) (hvl : d.pc ≤ (vl n d.ma d.tr.length : Int)) (hb : d.cls.length + 1 < 2147483648) (HST : Hid (∀ (τ8 : Nat → Nat) (W : World) (d8 : Sd), Sr B τ8 W p n d8 → Ru n K0 Mo d8 → 0 ≤ d8.le → d8.le ≤ d.le + 1 → d8.mo = d.mo → d8.cls.length ≤ d.cls.length + 1 → 0 < d8.cls.length → Calls Tryz.prog 101 #[ptr p] W (StPost B τ8 W p n K0 Mo d8))) :
    Calls Tryz.prog 65 #[ptr p, .int .i32 (k : Int)] w (TuPost B τ w p n K0 Mo d) := by
  have hB : B ≤ w.heap.size := by obtain ⟨pcs, s⟩ := h; exact s.base
  have hn := v.L.nb
  have HC0 := Lib.hid (show 0 < d.cls.length from Nat.lt_of_le_of_lt (Nat.zero_le _) (List.getElem?_eq_some_iff.1 cf.at_).1)
  obtain ⟨r, x, i, tl, G, LE⟩ := clash_gat v cf hL hse hnu
  obtain ⟨n1, n2, n3, n4⟩ := LE.needs v
  have hkb : k < 2147483648 := by have := (List.getElem?_eq_some_iff.1 cf.at_).1; omega
  have CL := Lib.hid (lesson_any h v.L cf.at_ hkb (v.cgood cf.at_) v.T.tl hdp G LE.ls n1 (by omega) LE.len n3)
  have LN := Lib.hid (v.L.noted LE.len n3)
  have hz : oth x < 2 * n := oth_lt (v.T.tl x (List.mem_of_getElem? LE.at_))
  have HLS := Lib.hid (fun (M : List Nat) pm mx => (LE.lsn v (M := M) pm mx).nd)
  have HN1 := Lib.hid n1
  have HN4 := Lib.hid n4
  have HDP := Lib.hid hdp
  have HQ := Lib.hid Q
  have HSC := Lib.hid v.L.sc
  have HMID := Lib.hid (fun (M : List Nat) pm mx (d5 : Sd) s L Q hh hl hg hse hnu => mid_of (M := M) (d5 := d5) v cf C LE pm mx s L Q hh hl hg hse hnu hdp)
  have HLK := Lib.hid hlk
  have HGQ := Lib.hid hgq
  have HP := Lib.hid pc
  have HL := Lib.hid hL
  have HV := Lib.hid v
  have HVL := Lib.hid hvl
  have hn0 : 0 < n := by have := v.L.ma; omega
  clear hvl
  clear h cf C Q hlk hgq hse hnu hdp G LE n1 n4 pc v hkb
  go_enter Tryz.func65, Tryz.ntmps65
  go_wp2_with fail
  (with_reducible refine CL.out.mono ?_)
  rintro e w1 ⟨τ1, g, cap, M, rfl, s1, r1, hgw, t1, pm, mx⟩
  have hMl : M.length ≤ n := by rw [pm.length_eq]; exact Nat.le_trans (kp_len _ _) n2
  have HM := Lib.hid (And.intro pm mx)
  have hg0 : τ1 g = 0 := r1.2 g rfl
  have hcap : cap ≤ 9223372036854775807 ∧ M.length + 1 ≤ cap := by
    rcases r1.at with ⟨_, h⟩ | ⟨g', cap', cur, h0, hb, h1, h2, _⟩
    · omega
    · injection h0 with _ _ h5; subst h5; exact ⟨h2, h1⟩
  have hMn : ∀ q ∈ M, q < 2 * n := fun q hq => (HN1.out q (List.mem_filter.1 (pm.mem_iff.1 hq)).1).1
  have la : La τ1 w1 (some ⟨g, 0, none⟩) (oth x :: M) := ⟨fun i q hq => ⟨_, rfl, by
    have h1 : (n32 (oth x :: M))[i]? = some (.int .i32 (q : Int)) := by unfold n32; rw [List.getElem?_map, hq]; rfl
    have h2 : w1.cell? ⟨g, i, none⟩ = _ := r1.cell h1
    rw [show (⟨g, 0, none⟩ : Addr).add i = ⟨g, i, none⟩ by unfold Addr.add; split <;> simp_all]; exact h2, hg0⟩⟩
  have hall : ∀ q ∈ oth x :: M, q < 2 * n := fun q hq => by
    rcases List.mem_cons.1 hq with rfl | hq
    · exact hz
    · exact hMn q hq
  have hM1 : M.length + 1 ≤ n := by
    have := nodup_le n _ (HLS.out M pm mx) fun u hu => by
      obtain ⟨q, hq, e⟩ := List.mem_map.1 hu
      have := hall q hq
      have e : q / 2 = u := e
      omega
    rw [List.length_map, List.length_cons] at this; exact this
  have l1 : (oth x :: M).length ≤ cap := by rw [List.length_cons]; exact hcap.2
  have l2 : (oth x :: M).length ≤ 65536 := by rw [List.length_cons]; omega
  have hdp1 : ∀ u ∈ (d.noted r).dp, u ≤ n := HDP.out
  have cs := spread_any s1 LN.out la l1 hcap.1 hall l2 hdp1
  rw [List.length_cons] at cs
  have CS := Lib.hid cs
  clear cs l1 l2 hdp1
  have RW := Lib.hid r1
  have T1 := Lib.hid t1
  clear s1 r1 t1 la pm mx CL
  go_wp2_with fail
  (with_reducible refine CS.out.mono ?_)
  rintro e w2 ⟨co, sp, ch, rfl, hsp, s2, t2, hco⟩
  obtain ⟨A4, c4, f14, _⟩ := s2.head_nu
  have f14 : w2.cell? ⟨p, 14, none⟩ = some (.slice A4 r.nu.length c4) := f14
  have R2 := Lib.hid s2
  have T2 := Lib.hid t2
  have HCO := Lib.hid hco
  have zp := s2.plt
  have hnl : r.nu.length ≤ 100000 := by omega
  have CP := Lib.hid (fun (W : World) (S : Sr B τ1 W p n { d.noted r with co := co, ch := ch }) (hA : W.cell? ⟨p, 14, none⟩ = some (.slice A4 r.nu.length c4)) => show Calls _ _ #[qp p, .slice A4 r.nu.length c4] W _ from qprefer_any S (by exact HQ.out) hn (by exact HSC.out) (by exact HN4.out) (by exact hnl) hA)
  clear s2 hco CS hcap hM1 hMl hz hMn hall
  go_wp2_with fail
  have f14d : w2.drew.cell? ⟨p, 14, none⟩ = some (.slice A4 r.nu.length c4) := f14
  clear f14
  go_region_held3 (fun w' => w'.cell? ⟨p, 14, none⟩ = some (.slice A4 r.nu.length c4)) (first | go_keep | (exact f14d)) ((go_at_call 95; (with_reducible refine (CP.out _ (by exact R2.out.alike rfl rfl rfl rfl) (by exact f14d)).mono ?_); rintro e we ⟨rfl, hp5, pl5, sc5, ra5, q1, q2, q3, q4, q5, q6⟩; have R3 := Lib.hid q1; have T3 := Lib.hid ((T2.out.alike (W := w2.drew) rfl rfl rfl rfl).trans q2); have Q3 := Lib.hid (And.intro q3 (And.intro q4 q5)); have f14 : we.cell? ⟨p, 14, none⟩ = some (.slice A4 r.nu.length c4) := q6.trans f14d; have zp := R3.out.plt; clear q1 q2 q3 q4 q5 q6))
  have L3 : Len n { d.noted r with co := co, ch := ch, hp := hp5, pl := pl5, sc := sc5, ra := ra5 } := by
    have L := LN.out
    exact ⟨L.nb, L.wo, L.dp, L.wy, L.lk, Q3.out.2.1, L.se, HCO.out, L.tr, L.ma, L.nu⟩
  have HL3 := Lib.hid L3
  have CF := Lib.hid (nforget_any R3.out L3 (by exact HN4.out))
  clear L3 f14 R2 CP
  go_wp2_with fail
  (with_reducible refine CF.out.mono ?_)
  rintro e w4 ⟨rfl, se5, s4, t4, hsl, hse5⟩
  have CC := Lib.hid (clash_any s4 (sp : Int) (by exact HP.out.c0) (by exact Int.lt_trans HP.out.c1 (by decide)) (by exact HP.out.l0) (by have a := HP.out.l1; show d.le < _; omega))
  have HSE := Lib.hid (And.intro hsl hse5)
  have T4 := Lib.hid (T3.out.trans t4)
  clear s4 t4 hsl hse5 CF R3
  go_wp2_with fail
  (with_reducible refine CC.out.mono ?_)
  rintro e w5 ⟨rfl, le5, hle5, s5, t5⟩
  obtain ⟨d5, hd5⟩ : ∃ d5 : Sd, d5 = { d.noted r with co := co, ch := ch, hp := hp5, pl := pl5, sc := sc5, ra := ra5, se := se5, nu := [], pc := d.pc + 1, le := le5 } := ⟨_, rfl⟩
  have L5 : Len n d5 := by
    have L := HL3.out
    subst hd5
    exact ⟨L.nb, L.wo, L.dp, L.wy, L.lk, L.sc, HSE.out.1, L.co, L.tr, L.ma, Nat.zero_le _⟩
  have S5 : Same d d5 := by subst hd5; exact ⟨rfl, rfl, rfl, rfl, rfl, rfl, rfl, rfl⟩
  have U := Lib.hid (show Tu5 B τ w p n K0 Mo d g cap (oth x) M d5 τ1 w5 from ⟨by rw [hd5]; exact s5, T1.out.trans (T4.out.trans t5), HMID.out M HM.out.1 HM.out.2 d5 S5 L5 (by subst hd5; exact Q3.out.1) (by subst hd5; exact Q3.out.2.2) (by subst hd5; exact HLK.out) (by subst hd5; exact HGQ.out) (by subst hd5; exact HSE.out.2) (by subst hd5; rfl), RW.out.stp (T4.out.trans t5), hgw, by subst hd5; rfl, by subst hd5; exact hle5, by subst hd5; rfl, by subst hd5; rfl, by subst hd5; rfl, S5⟩)
  have HL5 : 1 ≤ d5.ma.length := by rw [S5.ma]; exact hL
  have HCB : d5.cls.length + 1 < 2147483648 := by rw [S5.cls]; exact hb
  have hMb : M.length ≤ 65536 := by have := HM.out.1.length_eq; have := kp_len (d.noted r) tl; omega
  clear hd5 L5 S5 s5 t5 hle5 hsp T1 T4 T3 T2 HSE HL3 HCO Q3 HM HMID HLK HGQ RW CC LN HN1 HN4 HDP HQ HSC HLS HL HV hgw hL hb n2 n3 zp f14d t2 hg0
  by_cases hM0 : M = []
  · subst hM0
    obtain ⟨fr, hfr⟩ : ∃ fr, d5.ma[0]? = some fr := ⟨_, List.getElem?_eq_getElem HL5⟩
    have CB := Lib.hid (show Calls _ _ #[ptr p, .int .i64 0] w5 _ from back_any U.out.R U.out.mid.I.L U.out.mid.Q U.out.mid.lk U.out.mid.I.T.tl hfr (U.out.mid.I.T.mb fr (List.mem_of_getElem? hfr)))
    have HFR := Lib.hid hfr
    clear hfr HL5 HCB hMb
    go_wp2_with fail
    (with_reducible refine CB.out.mono ?_)
    rintro e w6 ⟨rfl, τ6, lk6, hp6, pl6, s6, t6, q6, l6, n6, m6⟩
    have R6 := Lib.hid (show Sr B τ6 w6 p n (d5.back 0 fr lk6 hp6 pl6) from s6)
    have RUU := Lib.hid (U.out.mid.unit HFR.out n6 q6 l6 m6)
    have U7 := Lib.hid (U.out.unit (lk' := lk6) (hp' := hp6) (pl' := pl6) HFR.out)
    have T6 := Lib.hid (U.out.T.trans t6)
    have row6 := U.out.row.stp t6
    have x0 : w6.cell? ⟨g, 0, none⟩ = some (.int .i32 (oth x : Int)) := row6.cell (by show (n32 [oth x])[0]? = _; rfl)
    have zg := lt_of_cell x0
    have zc : 1 ≤ cap ∧ cap ≤ 9223372036854775807 := by
      rcases row6.at with ⟨_, h⟩ | ⟨g', cap', cur, h0, hb, h1, h2, _⟩
      · simp at h
      · injection h0 with _ _ h5; subst h5; exact ⟨h1, h2⟩
    have zp := R6.out.plt
    have hzz := (U.out.mid.l.back (lk' := lk6) (hp' := hp6) (pl' := pl6) U.out.mid.I HFR.out (fun q hq => by cases hq)).1.1
    have CH := Lib.hid (fun (W : World) (S : Sr B τ6 W p n (d5.back 0 fr lk6 hp6 pl6)) => hold_lit S (U.out.mid.I.back HFR.out n6).L hzz (-1))
    clear s6 t6 q6 l6 n6 m6 row6 CB U HFR hzz
    go_wp2_with fail
    (with_reducible refine (CH.out w6 R6.out).mono ?_)
    rintro e w7 ⟨rfl, τ7, s7, t7⟩
    obtain ⟨d7, hd7⟩ : ∃ d7 : Sd, d7 = (d5.back 0 fr lk6 hp6 pl6).held (oth x) (-1) := ⟨_, rfl⟩
    rw [← hd7] at s7 RUU U7
    have R7 := Lib.hid s7
    have T7 := Lib.hid (T6.out.trans t7)
    have RU := Lib.hid RUU.out
    clear s7 t7 hd7 CH R6 T6 RUU x0 zg zc
    have zp := R7.out.plt
    have HCAP := Lib.hid (show d.pc + 1 < ((2 ^ n / 2 : Nat) : Int) by
      have a := U7.out.vl
      have b := vl_cap n hn0 d7.ma RU.out.I.L.tr
      have c := HVL.out
      omega)
    by_cases hdue : d.pc + 1 < 128 * d.pu
    · have CD := Lib.hid (due_no R7.out (by rw [U7.out.pu]; exact HP.out.u0) (by rw [U7.out.pu]; exact Int.lt_trans HP.out.u1 (by decide)) (by rw [U7.out.pc, U7.out.pu]; exact hdue))
      have HE := Lib.hid (show ∀ W, Below w7.heap.size w7 W → TuPost B τ w p n K0 Mo d (.returned (.tuple #[])) W from fun W b => ⟨rfl, τ7, _, R7.out.below b, T7.out.trans (Stp.of_below _ b), RU.out, U7.out.no HP.out.l0 hdue⟩)
      clear R7 T7 RU U7 HP hdue
      go_wp2_with fail
      (with_reducible refine CD.out.mono ?_)
      rintro e w8 ⟨rfl, b8⟩
      have HE2 := Lib.hid (HE.out _ b8)
      clear b8 HE
      go_wp2_with fail
      go_end0
      exact HE2.out
    · have hdue2 : 128 * d.pu ≤ d.pc + 1 := by omega
      have CD := Lib.hid (due_yes R7.out (by rw [U7.out.pu]; exact HP.out.u0) (by rw [U7.out.pu]; exact Int.lt_trans HP.out.u1 (by decide)) (by rw [U7.out.pc, U7.out.pu]; exact hdue2) (by rw [U7.out.pt]; exact HP.out.t0) (by rw [U7.out.pt]; exact Int.lt_trans HP.out.t1 (by decide)))
      have HDU := Lib.hid hdue2
      clear hdue hdue2
      go_wp2_with fail
      (with_reducible refine CD.out.mono ?_)
      rintro e w8 ⟨rfl, pt8, pu8, pn8, s8, t8⟩
      obtain ⟨d8, hd8⟩ : ∃ d8 : Sd, d8 = { d7 with pc := 0, pt := pt8, pu := pu8 } := ⟨_, rfl⟩
      have R8 := Lib.hid (show Sr B τ7 w8 p n d8 by rw [hd8]; exact s8)
      have T8 := Lib.hid (T7.out.trans t8)
      have RU8 := Lib.hid (show Ru n K0 Mo d8 by rw [hd8]; exact RU.out.pace 0 pt8 pu8 d7.le)
      have HOV := Lib.hid (show ∀ d9 : Sd, StRel d8 d9 → TuRel n d d9 from fun d9 r => by subst hd8; exact U7.out.over HDU.out pn8 HCAP.out r)
      have CO := Lib.hid (HST.out τ7 w8 d8 R8.out RU8.out (by subst hd8; show 0 ≤ d7.le; have := U7.out.le; have := HP.out.l0; omega) (by subst hd8; show d7.le ≤ _; have := U7.out.le; omega) (by subst hd8; exact U7.out.mo) (by subst hd8; exact U7.out.cls.1) (by subst hd8; exact Nat.lt_of_lt_of_le HC0.out U7.out.cge))
      have HE := Lib.hid (show ∀ e W, StPost B τ7 w8 p n K0 Mo d8 e W → TuPost B τ w p n K0 Mo d e W from fun e W ⟨he, τ9, d9, a, b, c, r⟩ => ⟨he, τ9, d9, a, T8.out.trans b, c, HOV.out d9 r⟩)
      clear s8 t8 hd8 pn8 CD R7 T7 RU U7 R8 T8 RU8 HOV HP HDU HST
      go_wp2_with fail
      (with_reducible refine CO.out.mono ?_)
      rintro e w9 ⟨rfl, q9⟩
      have HE2 := Lib.hid (HE.out _ _ ⟨rfl, q9⟩)
      clear q9 HE
      go_wp2_with fail
      go_end0
      exact HE2.out
  · obtain ⟨q1, hq1⟩ : ∃ q, M[0]? = some q := ⟨_, List.getElem?_eq_getElem (List.length_pos_iff.2 hM0)⟩
    have hMp : 0 < M.length := List.length_pos_iff.2 hM0
    have hq1m := List.mem_of_getElem? hq1
    obtain ⟨j, hj, hj1, hj2⟩ := U.out.mid.l.low q1 hq1m
    have hq1n : q1 < 2 * n := by
      have := oth_lt (U.out.mid.I.T.tl _ (List.mem_of_getElem? hj))
      rw [oth_oth] at this; exact this
    have hdl := U.out.mid.I.L.dp
    have hnn := U.out.mid.I.L.nb
    obtain ⟨m, hmd⟩ : ∃ y, d5.dp[q1 / 2]? = some y := ⟨_, List.getElem?_eq_getElem (by omega)⟩
    have hmq : dpt d5.dp q1 = m := dpt_of hmd
    have hml : m < d5.ma.length := by
      have e : dpt d5.dp q1 = lev d5.ma j := by rw [← dpt_oth, U.out.mid.I.T.dat hj]
      omega
    have hmb : m ≤ 65536 := by have := U.out.mid.I.L.ma; omega
    obtain ⟨fr, hfr⟩ : ∃ fr, d5.ma[m]? = some fr := ⟨_, List.getElem?_eq_getElem hml⟩
    have HFR := Lib.hid hfr
    have HMQ := Lib.hid hmq
    have HQ1 := Lib.hid hq1
    have CB := Lib.hid (fun (W : World) (S : Sr B τ1 W p n d5) => back_any S U.out.mid.I.L U.out.mid.Q U.out.mid.lk U.out.mid.I.T.tl hfr (U.out.mid.I.T.mb fr (List.mem_of_getElem? hfr)))
    have CN := Lib.hid (fun W => lnum_any q1 W (by omega))
    obtain ⟨g6, c6, a6⟩ := U.out.R.at_dp (by show 0 < d5.dp.length; omega)
    have f6 : w5.cell? ⟨p, 6, none⟩ = some (.slice (some ⟨g6, 0, none⟩) d5.dp.length c6) := a6.len_dp.1
    have l6 : d5.dp.length ≤ c6 := a6.len_dp.2
    have k6 := a6.cap
    have z1 := a6.dp hmd
    have z6 := a6.lt
    have zp := U.out.R.plt
    have x1 : w5.cell? ⟨g, 1, none⟩ = some (.int .i32 (q1 : Int)) := U.out.row.cell (by show (n32 (oth x :: M))[1]? = _; simp [n32, hq1])
    have zg := lt_of_cell x1
    have zc : M.length + 1 ≤ cap ∧ cap ≤ 9223372036854775807 := by
      rcases U.out.row.at with ⟨_, h⟩ | ⟨g', cap', cur, h0, hb, h1, h2, _⟩
      · omega
      · injection h0 with _ _ h5; subst h5; exact ⟨h1, h2⟩
    have e1 : q1 / 2 < d5.dp.length := by omega
    obtain ⟨vv, hvv⟩ : ∃ v, q1 / 2 = v := ⟨_, rfl⟩
    rw [hvv] at CN z1 e1
    have b1 : (1 : Int) < (M.length : Int) + 1 := by omega
    have b2 : ¬ (M.length : Int) + 1 = 1 := by omega
    have b3 : ((M.length : Int) + 1 == 1) = false := beq_eq_false_iff_ne.2 b2
    have b4 : (vv : Int) < (d5.dp.length : Int) := by omega
    have b5 : (0 : Int) ≤ (vv : Int) := by omega
    clear hq1 hq1m hj hj1 hj2 hdl hmd hmq hml hfr a6 hvv hq1n HL5
    go_wp2_with fail
    have RD := Lib.hid (show Sr B τ1 w5.drew p n d5 from U.out.R.alike rfl rfl rfl rfl)
    have TD := Lib.hid (show Stp τ τ1 w w5.drew from U.out.T.alike rfl rfl rfl rfl)
    refine region_last2 (S := fun w' => w'.cell? ⟨p, 6, none⟩ = some (.slice (some ⟨g6, 0, none⟩) d5.dp.length c6) ∧ w'.cell? ⟨g, 1, none⟩ = some (.int .i32 (q1 : Int)) ∧ w'.cell? ⟨g6, vv, none⟩ = some (.int .i32 (m : Int))) (by kernel_rfl) (by rfl) (by rfl) (by kernel_rfl) ⟨f6, x1, z1⟩ (fun hHeld => ?_)
    simp only [List.pop_toArray, List.dropLast_cons_cons, List.dropLast_singleton]
    refine wpAnyH_take (i := 0) (v := ?v901) rfl (by kernel_rfl) (by kernel_rfl) (by kernel_rfl) (fun _ _ _ h => h) (Or.inl ⟨by rfl, ?hy901⟩) (by assumption) ?rest901
    case hy901 => (intro w hSw; (try dsimp only at hSw); go_simp; try with_reducible rfl)
    (try simp only [Act.put, List.setIfInBounds_toArray, List.set_cons_zero, List.set_cons_succ])
    refine wpAnyH_take (i := 1) (v := ?v902) rfl (by kernel_rfl) (by kernel_rfl) (by kernel_rfl) (fun _ _ _ h => h) (Or.inl ⟨by rfl, ?hy902⟩) (by assumption) ?rest902
    case hy902 => (intro w hSw; (try dsimp only at hSw); go_simp; try with_reducible rfl)
    (try simp only [Act.put, List.setIfInBounds_toArray, List.set_cons_zero, List.set_cons_succ])
    refine wpAnyH_take (i := 2) (v := ?v903) rfl (by kernel_rfl) (by kernel_rfl) (by kernel_rfl) (fun _ _ _ h => h) (Or.inl ⟨by rfl, ?hy903⟩) (by assumption) ?rest903
    case hy903 => (intro w hSw; (try dsimp only at hSw); go_simp; try with_reducible rfl)
    (try simp only [Act.put, List.setIfInBounds_toArray, List.set_cons_zero, List.set_cons_succ])
    refine wpAnyH_take (i := 3) (v := ?v904) rfl (by kernel_rfl) (by kernel_rfl) (by kernel_rfl) (fun _ _ _ h => h) (Or.inl ⟨by rfl, ?hy904⟩) (by assumption) ?rest904
    case hy904 => (intro w hSw; (try dsimp only at hSw); go_simp; try with_reducible rfl)
    (try simp only [Act.put, List.setIfInBounds_toArray, List.set_cons_zero, List.set_cons_succ])
    refine wpAnyH_take (i := 4) (v := ?v905) rfl (by kernel_rfl) (by kernel_rfl) (by kernel_rfl) (fun _ _ _ h => h) (Or.inl ⟨by rfl, ?hy905⟩) (by assumption) ?rest905
    case hy905 => (intro w hSw; (try dsimp only at hSw); go_simp; try with_reducible rfl)
    (try simp only [Act.put, List.setIfInBounds_toArray, List.set_cons_zero, List.set_cons_succ])
    refine wpAnyH_take (i := 5) (v := ?v906) rfl (by kernel_rfl) (by kernel_rfl) (by kernel_rfl) (fun _ _ _ h => h) (Or.inl ⟨by rfl, ?hy906⟩) (by assumption) ?rest906
    case hy906 => (intro w hSw; (try dsimp only at hSw); go_simp; try with_reducible rfl)
    (try simp only [Act.put, List.setIfInBounds_toArray, List.set_cons_zero, List.set_cons_succ])
    refine wpAnyH_take (i := 6) (v := ?v907) rfl (by kernel_rfl) (by kernel_rfl) (by kernel_rfl) (fun _ _ _ h => h) (Or.inl ⟨by rfl, ?hy907⟩) (by assumption) ?rest907
    case hy907 => (intro w hSw; (try dsimp only at hSw); go_simp; try with_reducible rfl)
    (try simp only [Act.put, List.setIfInBounds_toArray, List.set_cons_zero, List.set_cons_succ])
    refine wpAnyH_take (i := 7) (v := ?v908) rfl (by kernel_rfl) (by kernel_rfl) (by kernel_rfl) (fun _ _ _ h => h) (Or.inl ⟨by rfl, ?hy908⟩) (by assumption) ?rest908
    case hy908 => (intro w hSw; (try dsimp only at hSw); go_simp; try with_reducible rfl)
    (try simp only [Act.put, List.setIfInBounds_toArray, List.set_cons_zero, List.set_cons_succ])
    refine wpAnyH_ready (rs := [8]) (by kernel_rfl) (by simp) ?_
    refine AllReadyH.cons rfl (fun K hK => ?_) ?_
    · skip
      go_simp
      go_at_call 90
      refine (CN.out _).mono ?_
      rintro e w' ⟨rfl, rfl⟩
      refine hK.out _ _ ?_ (fun hHeld => ?_)
      · exact hHeld
      clear hK K
      (try simp only [Act.put, List.setIfInBounds_toArray, List.set_cons_zero, List.set_cons_succ])
      refine wpAnyH_take (i := 9) (v := ?v909) rfl (by kernel_rfl) (by kernel_rfl) (by kernel_rfl) (fun _ _ _ h => h) (Or.inl ⟨by rfl, ?hy909⟩) (by assumption) ?rest909
      case hy909 => (intro w hSw; (try dsimp only at hSw); go_simp; try with_reducible rfl)
      (try simp only [Act.put, List.setIfInBounds_toArray, List.set_cons_zero, List.set_cons_succ])
      refine wpAnyH_take (i := 10) (v := ?v910) rfl (by kernel_rfl) (by kernel_rfl) (by kernel_rfl) (fun _ _ _ h => h) (Or.inl ⟨by rfl, ?hy910⟩) (by assumption) ?rest910
      case hy910 => (intro w hSw; (try dsimp only at hSw); go_simp; try with_reducible rfl)
      (try simp only [Act.put, List.setIfInBounds_toArray, List.set_cons_zero, List.set_cons_succ])
      refine wpAnyH_take (i := 11) (v := ?v911) rfl (by kernel_rfl) (by kernel_rfl) (by kernel_rfl) (fun _ _ _ h => h) (Or.inl ⟨by rfl, ?hy911⟩) (by assumption) ?rest911
      case hy911 => (intro w hSw; (try dsimp only at hSw); go_simp; try with_reducible rfl)
      (try simp only [Act.put, List.setIfInBounds_toArray, List.set_cons_zero, List.set_cons_succ])
      refine wpAnyH_done (by kernel_rfl) ?_ _
      show Oper.wp _ _ _ _ _ _
      simp only [List.getElem_toArray, List.getElem_cons_succ, List.getElem_cons_zero]
      go_simp
      rw [show IntKind.i64.wrap (m : Int) = (m : Int) from IntWalk.i64_in _ (by omega)]
      (with_reducible refine (CB.out _ RD.out).mono ?_)
      rintro e w6 ⟨rfl, τ6, lk6, hp6, pl6, s6, t6, q6, l6, n6, m6⟩
      have RUU := Lib.hid (fun (sp : Int) (va : Value) => U.out.mid.claim HFR.out n6 q6 l6 m6 HQ1.out HMQ.out HCB sp va)
      have U7 := Lib.hid (U.out.claim (lk' := lk6) (hp' := hp6) (pl' := pl6) HFR.out (sp : Int) q1 (.slice (some ⟨g, 0, none⟩) (M.length + 1) cap) (d5.cls.length : Int))
      have T6 := Lib.hid (TD.out.trans t6)
      have row6 := (U.out.row.stp (Stp.of_below τ1 (Below.draws (Below.refl _ _) 1))).stp t6
      have rowd : RowN τ6 0 w6.drew 138 1 (.slice (some ⟨g, 0, none⟩) (M.length + 1) cap) (M.length + 1) (n32 (oth x :: M)) := row6.stp (Stp.of_below τ6 (Below.draws (Below.refl _ _) 1))
      obtain ⟨LB1, LB2, _, _, _⟩ := U.out.mid.l.back (lk' := lk6) (hp' := hp6) (pl' := pl6) U.out.mid.I HFR.out (fun q hq => by rw [← HMQ.out]; exact U.out.mid.l.mx q1 HQ1.out q hq)
      have I6 := U.out.mid.I.back HFR.out (lk' := lk6) (hp' := hp6) (pl' := pl6) n6
      have hgq5 := U.out.mid.gq
      have hq1n := (LB2 q1 (List.mem_of_getElem? HQ1.out)).1
      have hgB : B ≤ g := Nat.le_trans hB U.out.ge
      have hcl5 : d5.cls.length < 2147483648 := by omega
      have hFb : ∀ q, (d5.F q).length ≤ 4294967295 := fun q => by have := U.out.mid.I.W.all q; omega
      obtain ⟨d6, hd6⟩ : ∃ d6 : Sd, d6 = d5.back m fr lk6 hp6 pl6 := ⟨_, rfl⟩
      have R6 := Lib.hid (show Sr B τ6 w6 p n d6 by rw [hd6]; exact s6)
      obtain ⟨D7, hD7⟩ : ∃ D7 : Sd, D7 = d6.claimed (oth x :: M) (sp : Int) (oth x) q1 (.slice (some ⟨g, 0, none⟩) (M.length + 1) cap) := ⟨_, rfl⟩
      have CC := Lib.hid (show ∀ W : World, Sr B τ6 W p n d6 → RowN τ6 0 W 138 1 (.slice (some ⟨g, 0, none⟩) (M.length + 1) cap) (M.length + 1) (n32 (oth x :: M)) → Calls Tryz.prog 88 #[ptr p, .slice (some ⟨g, 0, none⟩) (M.length + 1) cap, .int .i64 (sp : Int)] W fun e w' => e = .returned (.int .i32 (d5.cls.length : Int)) ∧ ∃ τ' g', some (⟨g, 0, none⟩ : Addr) = some ⟨g', 0, none⟩ ∧ Sr B τ' w' p n D7 ∧ Stg g' τ6 τ' W w' from fun W S hr => by
        subst hd6 hD7
        exact claim_any S hn hcl5 (ls := oth x :: M) hr (fun g' hg' => by
          have : g = g' := by simpa [Value.ownBlock] using hg'
          subst this; exact hgB) (sp : Int) rfl HQ1.out LB1.1 hq1n (by show oth x ≠ d5.gq; have := LB1.1; omega) (by show q1 ≠ d5.gq; omega) hFb)
      have L7 : Len n D7 := by
        have L := I6.L
        subst hd6 hD7
        exact ⟨L.nb, L.wo, L.dp, L.wy, L.lk, L.sc, L.se, L.co, L.tr, L.ma, L.nu⟩
      have hck : D7.cls[d5.cls.length]? = some ⟨oth x :: M, (sp : Int), 2⟩ := by
        subst hd6 hD7
        show (d5.cls ++ [(⟨oth x :: M, (sp : Int), 2⟩ : Cl)])[d5.cls.length]? = _
        simp
      have hgk : D7.gk = d5.cls.length ∧ D7.gu = .slice (some ⟨g, 0, none⟩) (M.length + 1) cap := by subst hd6 hD7; exact ⟨rfl, rfl⟩
      have PIN := Lib.hid (show ∀ (τ' : Nat → Nat) (W : World) (D : Sd), D.cls = D7.cls → D.gk = D7.gk → D.gu = D7.gu → Sr B τ' W p n D → W.cell? ⟨g, 0, none⟩ = some (.int .i32 (oth x : Int)) ∧ g < W.heap.size from fun τ' W D a b c S => by
        have hck' : D.cls[d5.cls.length]? = some ⟨oth x :: M, (sp : Int), 2⟩ := by rw [a]; exact hck
        obtain ⟨ga, capa, gl, capl, ca⟩ := S.claim hck' (by simp)
        have e := S.cpinned ca hck' (b.trans hgk.1)
        rw [c, hgk.2] at e
        injection e with e _ _; injection e with e; injection e with e
        subst e
        exact ⟨ca.cell 0 (oth x) rfl, ca.llt⟩)
      have CH := Lib.hid (fun (W : World) (τ' : Nat → Nat) (S : Sr B τ' W p n D7) => hold_lit S L7 LB1.1 (d5.cls.length : Int))
      have x0 : w6.drew.cell? ⟨g, 0, none⟩ = some (.int .i32 (oth x : Int)) := rowd.cell (by show (n32 (oth x :: M))[0]? = _; rfl)
      have zg := lt_of_cell x0
      have zp := R6.out.plt
      have HGE := Lib.hid U.out.ge
      have HRD := Lib.hid rowd
      rw [show (((d5.back m fr lk6 hp6 pl6).claimed (oth x :: M) (sp : Int) (oth x) q1 (.slice (some ⟨g, 0, none⟩) (M.length + 1) cap)).held (oth x) (d5.cls.length : Int)) = D7.held (oth x) (d5.cls.length : Int) by rw [hD7, hd6]] at U7
      have RUU2 := Lib.hid (show Ru n K0 Mo (D7.held (oth x) (d5.cls.length : Int)) by rw [hD7, hd6]; exact RUU.out _ _)
      clear s6 t6 q6 l6 n6 m6 CB U HFR HMQ HQ1 RUU row6 rowd LB1 LB2 I6 hgq5 hq1n hFb hd6 hD7 hck hgk L7 TD RD HCB f6 x1 z1 k6 z6 zc
      go_wp2_with fail
      go_region_held3 (fun w' => w'.cell? ⟨g, 0, none⟩ = some (.int .i32 (oth x : Int))) (first | go_keep | (assumption)) ((first | (go_at_call 88; (with_reducible refine (CC.out _ (by exact R6.out.alike rfl rfl rfl rfl) (by exact HRD.out)).mono ?_); rintro e w61 ⟨rfl, τ61, g61, e61, s61, t61⟩; have R61 := Lib.hid s61; injection e61 with e61; injection e61 with e61; subst e61; have T61 := Lib.hid (Stg.after (T6.out.alike (W := w6.drew) rfl rfl rfl rfl) t61 HGE.out); have x0 := (PIN.out _ _ D7 rfl rfl rfl s61).1; have zg := (PIN.out _ _ D7 rfl rfl rfl s61).2; have zp := s61.plt; clear s61 t61) | (go_at_call 99; (with_reducible refine (CH.out _ _ R61.out).mono ?_); rintro e w7 ⟨rfl, τ7, s7, t7⟩; have x0 := (PIN.out _ _ (D7.held (oth x) (d5.cls.length : Int)) rfl rfl rfl s7).1; have zg := (PIN.out _ _ (D7.held (oth x) (d5.cls.length : Int)) rfl rfl rfl s7).2; have zp := s7.plt; have R70 := Lib.hid s7; have T70 := Lib.hid (T61.out.trans t7); clear s7 t7)))
      obtain ⟨d7, hd7⟩ : ∃ d7 : Sd, d7 = D7.held (oth x) (d5.cls.length : Int) := ⟨_, rfl⟩
      rw [← hd7] at U7 RUU2 R70
      have R7 := Lib.hid R70.out
      have T7 := Lib.hid T70.out
      have RU := Lib.hid RUU2.out
      clear hd7 CH CC PIN R70 T70 RUU2 R6 R61 T61 T6 x0 zg HRD HGE
      have zp := R7.out.plt
      have HCAP := Lib.hid (show d.pc + 1 < ((2 ^ n / 2 : Nat) : Int) by
        have a := U7.out.vl
        have b := vl_cap n hn0 d7.ma RU.out.I.L.tr
        have c := HVL.out
        omega)
      by_cases hdue : d.pc + 1 < 128 * d.pu
      · have CD := Lib.hid (due_no R7.out (by rw [U7.out.pu]; exact HP.out.u0) (by rw [U7.out.pu]; exact Int.lt_trans HP.out.u1 (by decide)) (by rw [U7.out.pc, U7.out.pu]; exact hdue))
        have HE := Lib.hid (show ∀ W, Below w7.heap.size w7 W → TuPost B τ w p n K0 Mo d (.returned (.tuple #[])) W from fun W b => ⟨rfl, τ7, _, R7.out.below b, T7.out.trans (Stp.of_below _ b), RU.out, U7.out.no HP.out.l0 hdue⟩)
        clear R7 T7 RU U7 HP hdue
        go_wp2_with fail
        (with_reducible refine CD.out.mono ?_)
        rintro e w8 ⟨rfl, b8⟩
        have HE2 := Lib.hid (HE.out _ b8)
        clear b8 HE
        go_wp2_with fail
        go_end0
        exact HE2.out
      · have hdue2 : 128 * d.pu ≤ d.pc + 1 := by omega
        have CD := Lib.hid (due_yes R7.out (by rw [U7.out.pu]; exact HP.out.u0) (by rw [U7.out.pu]; exact Int.lt_trans HP.out.u1 (by decide)) (by rw [U7.out.pc, U7.out.pu]; exact hdue2) (by rw [U7.out.pt]; exact HP.out.t0) (by rw [U7.out.pt]; exact Int.lt_trans HP.out.t1 (by decide)))
        have HDU := Lib.hid hdue2
        clear hdue hdue2
        go_wp2_with fail
        (with_reducible refine CD.out.mono ?_)
        rintro e w8 ⟨rfl, pt8, pu8, pn8, s8, t8⟩
        obtain ⟨d8, hd8⟩ : ∃ d8 : Sd, d8 = { d7 with pc := 0, pt := pt8, pu := pu8 } := ⟨_, rfl⟩
        have R8 := Lib.hid (show Sr B τ7 w8 p n d8 by rw [hd8]; exact s8)
        have T8 := Lib.hid (T7.out.trans t8)
        have RU8 := Lib.hid (show Ru n K0 Mo d8 by rw [hd8]; exact RU.out.pace 0 pt8 pu8 d7.le)
        have HOV := Lib.hid (show ∀ d9 : Sd, StRel d8 d9 → TuRel n d d9 from fun d9 r => by subst hd8; exact U7.out.over HDU.out pn8 HCAP.out r)
        have CO := Lib.hid (HST.out τ7 w8 d8 R8.out RU8.out (by subst hd8; show 0 ≤ d7.le; have := U7.out.le; have := HP.out.l0; omega) (by subst hd8; show d7.le ≤ _; have := U7.out.le; omega) (by subst hd8; exact U7.out.mo) (by subst hd8; exact U7.out.cls.1) (by subst hd8; exact Nat.lt_of_lt_of_le HC0.out U7.out.cge))
        have HE := Lib.hid (show ∀ e W, StPost B τ7 w8 p n K0 Mo d8 e W → TuPost B τ w p n K0 Mo d e W from fun e W ⟨he, τ9, d9, a, b, c, r⟩ => ⟨he, τ9, d9, a, T8.out.trans b, c, HOV.out d9 r⟩)
        clear s8 t8 hd8 pn8 CD R7 T7 RU U7 R8 T8 RU8 HOV HP HDU HST
        go_wp2_with fail
        (with_reducible refine CO.out.mono ?_)
        rintro e w9 ⟨rfl, q9⟩
        have HE2 := Lib.hid (HE.out _ _ ⟨rfl, q9⟩)
        clear q9 HE
        go_wp2_with fail
        go_end0
        exact HE2.out
    exact AllReadyH.nil
end
end Go.Proofs.YtpmdnbdmocdngaaGreat
