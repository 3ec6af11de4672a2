/-
  Parts of the proof, joined: DpllCm3, DpllCl, DpllCl2, DpllJ3, DpllT, DpllTk, DpllTn.
-/
import Derived.Test.YtpmdnbdmocdngaaGreatMh23
import Derived.Test.YtpmdnbdmocdngaaGreatMh15
import Derived.Test.YtpmdnbdmocdngaaGreatMh20
import Derived.Test.YtpmdnbdmocdngaaGreatMh16
import Derived.Test.YtpmdnbdmocdngaaGreatMh11
import Derived.Test.YtpmdnbdmocdngaaGreatMh04

namespace Go.Proofs.YtpmdnbdmocdngaaGreat
open Go.RowKit
set_option linter.unusedVariables false
set_option linter.unusedSimpArgs false

section
variable {n : Nat} {K0 : Nat → Prop} {Mo : (Nat → Bool) → Prop} {d : Sd} {r : Nt} {x i : Nat} {tl : List Nat}
theorem kp_imp (v : Iv n K0 Mo d) (l : Les n Mo d r x i tl) (m : Nat → Bool) (hm : Mo m) : ∃ q ∈ oth x :: kp (d.noted r) tl, lt_ m q = true := by
  refine Classical.byContradiction fun hno => ?_
  have hf : ∀ q ∈ oth x :: kp (d.noted r) tl, lt_ m q = false := fun q hq => by
    cases e : lt_ m q with
    | false => rfl
    | true => exact absurd ⟨q, hq, e⟩ hno
  have key : ∀ (j : Nat) (q : Nat), q ∈ tl → d.tr[j]? = some (oth q) → lt_ m q = false := by
    intro j
    induction j using Nat.strongRecOn with
    | _ j ih =>
      intro q hq hj
      by_cases hk : q ∈ kp (d.noted r) tl
      · exact hf q (List.mem_cons_of_mem _ hk)
      · have hnd : ndl (d.noted r) q = true := by
          cases e : ndl (d.noted r) q with
          | true => rfl
          | false => exact absurd (List.mem_filter.2 ⟨hq, by rw [e]; rfl⟩) hk
        obtain ⟨hsn, j', hj', h1, h2⟩ := l.low q hq
        obtain ⟨ej, _⟩ := v.T.uniq hj hj' rfl
        subst ej
        unfold ndl at hnd
        have hwy : (d.noted r).wy = d.wy := rfl
        rw [hwy] at hnd
        rcases v.Y j (oth q) hj h1 with ⟨_, hw⟩ | ⟨_, k, c, hw, hc, hmem, hoth⟩
        · rw [oth_half] at hw
          rw [hw] at hnd
          simp at hnd
        · rw [oth_half] at hw
          rw [hw] at hnd
          have hcl : (d.noted r).cls = d.cls := rfl
          simp only [Int.toNat_natCast, hcl, hc] at hnd
          have hk0 : ¬ (k : Int) < 0 := by omega
          have hall : ∀ y ∈ c.ls, ndp (d.noted r) y = false := by
            have : c.ls.any (ndp (d.noted r)) = false := by simpa using hnd
            intro y hy
            simpa using (List.any_eq_false.1 this) y hy
          obtain ⟨y, hy, hyt⟩ := (v.S m hm).1 k c hc
          by_cases e : y = oth q
          · subst e
            rw [lt_oth] at hyt
            cases e2 : lt_ m q with
            | false => rfl
            | true => rw [e2] at hyt; cases hyt
          · exfalso
            obtain ⟨i', hi', hi2⟩ := hoth y hy e
            have hdy : dpt d.dp y = lev d.ma i' := by rw [← dpt_oth, v.T.dat hi2]
            have hnp := hall y hy
            unfold ndp at hnp
            have hse : (d.noted r).se = r.se := rfl
            have hdp : (d.noted r).dp = d.dp := rfl
            rw [hse, hdp] at hnp
            have hle : lev d.ma i' ≤ lev d.ma j := lev_mono d.ma (by omega)
            by_cases h0 : lev d.ma i' = 0
            · have := (v.S m hm).2 i' _ hi2 h0
              rw [lt_oth, hyt] at this; cases this
            · have hsy : sn r y = true := by
                unfold sn
                cases e3 : r.se.getD (y / 2) false with
                | true => rfl
                | false => rw [e3] at hnp; simp at hnp; omega
              have hsy2 : sn r (oth y) = true := by unfold sn at hsy ⊢; rw [oth_half]; exact hsy
              have hmem2 := l.full i' (oth y) hi2 hsy2 (by omega)
              rw [oth_oth] at hmem2
              have := ih i' hi' y hmem2 hi2
              rw [hyt] at this; cases this
  obtain ⟨q, hq, ht⟩ := l.imp m hm
  rw [l.ls] at hq
  rcases List.mem_cons.1 hq with rfl | hq
  · rw [hf _ (List.mem_cons_self ..)] at ht; cases ht
  · obtain ⟨_, j, hj, _⟩ := l.low q hq
    rw [key j q hq hj] at ht; cases ht
end
end Go.Proofs.YtpmdnbdmocdngaaGreat

namespace Go.Proofs.YtpmdnbdmocdngaaGreat
open Go.ChangeShapes Go.WideShapes Go.ChangeAt Go.RowKit
set_option linter.unusedVariables false
set_option linter.unusedSimpArgs false

section
variable {B : Nat} {τ : Nat → Nat} {w : World} {p n : Nat} {d : Sd} {pcs : Array Value}
/-- A block that was nobody's gets a part. -/
theorem Sx.retag (h : Sx B τ w p n d pcs) {g : Nat} (r : Nat) (h0 : τ g = 0) (hB : B ≤ g) : Sx B (fun b => if b = g then r else τ b) w p n d pcs := by
  have key : ∀ b x, τ b = x → 1 ≤ x → (fun b => if b = g then r else τ b) b = x := fun b x hb hx => by
    show (if b = g then r else τ b) = x
    rw [if_neg (fun e => by rw [e, h0] at hb; omega)]; exact hb
  refine ⟨h.base, fun b hb => ?_, ⟨h.blk.1, key _ _ h.blk.2 (by omega)⟩, h.size, fun j hj => ?_, h.num, ?_, ?_⟩
  · show (if b = g then r else τ b) = 0
    rw [if_neg (by omega)]; exact h.low b hb
  · obtain ⟨v, a, b⟩ := h.row j hj
    exact ⟨v, a, b.1, fun x hx => key _ _ (b.2 x hx) (by omega)⟩
  · obtain ⟨v, cvs, a, b, c, e⟩ := h.cl
    exact ⟨v, cvs, a, b, ⟨c.1, fun x hx => key _ _ (c.2 x hx) (by omega)⟩, fun i x hx => by obtain ⟨u, f, k⟩ := e i x hx; exact ⟨u, f, k.1, fun y hy => key _ _ (k.2 y hy) (by omega)⟩⟩
  · obtain ⟨wb, wvs, a, b, c, e⟩ := h.wat
    exact ⟨wb, wvs, a, ⟨b.1, key _ _ b.2 (by omega)⟩, c, fun q hq => by obtain ⟨v, f, k⟩ := e q hq; exact ⟨v, f, k.1, fun y hy => key _ _ (k.2 y hy) (by omega)⟩⟩
/-- A claim put behind the others. -/
theorem Sr.fin_cl (h : Sr B τ w p n d) {u : Value} {ls : List Nat} (hu : Row τ (101 + 2 * d.cls.length) w 138 u (n32 ls)) (sp fr : Int) : ∃ (A : Option Addr) (c0 : Nat) (cvs : List Value), w.cell? ⟨p, 0, none⟩ = some (.slice A d.cls.length c0) ∧ w.ownsRow 0 206 3 (.slice A d.cls.length c0) d.cls.length (clCells (cvs.zip d.cls)) ∧
    ∀ (wp : World) (c1 g1 : Nat), (w.alloc (.cells #[u, .int .i64 sp, .int .i64 fr] 206)).grownBy wp (Value.slice A d.cls.length c0).ownBlock → wp.ownsRow 0 206 3 (.slice (some ⟨g1, 0, none⟩) (d.cls.length + 1) c1) (d.cls.length + 1) (clCells (cvs.zip d.cls) ++ [u, .int .i64 sp, .int .i64 fr]) → ((Value.slice A d.cls.length c0).ownBlock = some g1 ∨ g1 = w.heap.size + 1) →
    (wp.cell? ⟨p, 0, none⟩ = some (.slice A d.cls.length c0) ∧ wp.frozen? ⟨p, 0, none⟩ = false) ∧ ∃ τ', Sr B τ' (wp.setCell ⟨p, 0, none⟩ (.slice (some ⟨g1, 0, none⟩) (d.cls.length + 1) c1)) p n { d with cls := d.cls ++ [⟨ls, sp, fr⟩], gk := d.cls.length, gu := u } ∧ Stp τ τ' w (wp.setCell ⟨p, 0, none⟩ (.slice (some ⟨g1, 0, none⟩) (d.cls.length + 1) c1)) := by
  obtain ⟨pcs, h⟩ := h
  obtain ⟨v, cvs, hv, hcl, hrow, hcs⟩ := h.cl
  obtain ⟨A, c0, rfl⟩ : ∃ A c0, v = .slice A d.cls.length c0 := by
    rcases hrow.at with ⟨h0, h1⟩ | ⟨g, cap, cur, h0, _⟩
    · exact ⟨none, 0, by rw [h0, h1]⟩
    · exact ⟨some ⟨g, 0, none⟩, cap, h0⟩
  refine ⟨A, c0, cvs, by rw [h.blk.cell]; exact hv, hrow.1, fun wp c1 g1 hg hown hat => ?_⟩
  have b1 : Below w.heap.size w (w.alloc (.cells #[u, .int .i64 sp, .int .i64 fr] 206)) := (Below.refl _ _).alloc (Nat.le_refl _) _
  have s0 : Step (fun r => r = 2) τ τ w (w.alloc (.cells #[u, .int .i64 sp, .int .i64 fr] 206)) := Step.of_below _ τ b1
  have s1 : Step (fun r => r = 2) τ (fun b => if b = g1 then 2 else τ b) (w.alloc (.cells #[u, .int .i64 sp, .int .i64 fr] 206)) wp := Step.of_grown hg (fun b hb => hrow.2 b hb) (hat.imp (fun e => hrow.2 g1 e) (fun e => by simp; omega)) rfl
  have s := s0.trans s1
  have hp := h.blk.step s (by omega)
  have s2 : Step (fun r => r = 1) (fun b => if b = g1 then 2 else τ b) (fun b => if b = g1 then 2 else τ b) wp (wp.setCell ⟨p, 0, none⟩ (.slice (some ⟨g1, 0, none⟩) (d.cls.length + 1) c1)) := Step.set _ _ hp.2
  have st := (Stp.of_step s (by omega)).trans (Stp.of_step s2 (by decide))
  have rown : RowN (fun b => if b = g1 then 2 else τ b) 2 wp 206 3 (.slice (some ⟨g1, 0, none⟩) (d.cls.length + 1) c1) (d.cls ++ [(⟨ls, sp, fr⟩ : Cl)]).length (clCells ((cvs ++ [u]).zip (d.cls ++ [(⟨ls, sp, fr⟩ : Cl)]))) := by
    refine ⟨?_, fun b hb => by injection hb with hb; subst hb; simp⟩
    have e : clCells ((cvs ++ [u]).zip (d.cls ++ [⟨ls, sp, fr⟩])) = clCells (cvs.zip d.cls) ++ [u, .int .i64 sp, .int .i64 fr] := by
      rw [List.zip_append hcl]; unfold clCells; rw [List.flatMap_append]; rfl
    rw [e, List.length_append]; exact hown
  refine ⟨⟨by rw [hp.cell]; exact hv, hp.free 0⟩, fun b => if b = g1 then 2 else τ b, ⟨pcs.setIfInBounds 0 (.slice (some ⟨g1, 0, none⟩) (d.cls.length + 1) c1), ⟨Nat.le_trans h.base st.kept.size, fun b hb => st.tag b (Nat.lt_of_lt_of_le hb h.base) (h.low b hb), hp.put 0 _, by simp [h.size], fun j hj => ?_, fun j hj => ?_, ?_, ?_⟩⟩, st⟩
  · have := flat_le hj
    obtain ⟨v', a, b⟩ := h.row j hj
    have b2 : Row τ (j + 2) w (rowOf d j).1 v' (rowOf d j).2 := b
    have e : rowOf { d with cls := d.cls ++ [⟨ls, sp, fr⟩], gk := d.cls.length, gu := u } j = rowOf d j := by
      rcases flat_cases hj with rfl | rfl | rfl | rfl | rfl | rfl | rfl | rfl | rfl | rfl | rfl | rfl <;> rfl
    rw [e]
    exact ⟨v', by rw [Array.getElem?_setIfInBounds_ne (by omega)]; exact a, (b2.step s (by omega)).step s2 (by omega)⟩
  · have e : numOf { d with cls := d.cls ++ [⟨ls, sp, fr⟩], gk := d.cls.length, gu := u } j = numOf d j := by
      rcases isnum_cases hj with rfl | rfl | rfl | rfl | rfl | rfl | rfl | rfl <;> rfl
    have hj0 : j ≠ 0 := fun e => by subst e; cases hj
    rw [e, Array.getElem?_setIfInBounds_ne (fun e' => hj0 e'.symm)]; exact h.num j hj
  · refine ⟨_, cvs ++ [u], Array.getElem?_setIfInBounds_self_of_lt (by rw [h.size]; omega), by simp [hcl], ?_, fun i x hx => ?_⟩
    · have := rown.step s2 (by omega)
      simpa using this
    · have hx : (d.cls ++ [⟨ls, sp, fr⟩])[i]? = some x := hx
      by_cases hi : i < d.cls.length
      · rw [List.getElem?_append_left hi] at hx
        obtain ⟨u', f, k⟩ := hcs i x hx
        exact ⟨u', ⟨by rw [List.getElem?_append_left (by omega)]; exact f.1, fun e => by have e : i = d.cls.length := e; omega⟩, (k.step s (by omega)).step s2 (by omega)⟩
      · have := (List.getElem?_eq_some_iff.1 hx).1
        simp at this
        obtain rfl : i = d.cls.length := by omega
        simp at hx
        subst hx
        exact ⟨u, ⟨by rw [List.getElem?_append_right (by omega), hcl]; simp, fun _ => rfl⟩, (hu.step s (by omega)).step s2 (by omega)⟩
  · obtain ⟨wb, wvs, a, b, c, e⟩ := h.wat
    exact ⟨wb, wvs, by rw [Array.getElem?_setIfInBounds_ne (by omega)]; exact a, (b.step s (by omega)).step s2 (by omega), c, fun q hq => by obtain ⟨v', f, k⟩ := e q hq; exact ⟨v', f, (k.step s (by omega)).step s2 (by omega)⟩⟩
/-- Where the claim that is pinned has its literals. -/
theorem Sr.cpinned (h : Sr B τ w p n d) {m k : Nat} {c : Cl} {ga capa gl capl : Nat} (a : Cla τ w p m k c ga capa gl capl) (hk : d.cls[k]? = some c) (hgk : d.gk = k) : d.gu = .slice (some ⟨gl, 0, none⟩) c.ls.length capl := by
  obtain rfl := a.len h
  obtain ⟨pcs, h⟩ := h
  obtain ⟨v, cvs, h0, h1, h2, h3⟩ := h.cl
  obtain ⟨u, ⟨hu, hup⟩, hr⟩ := h3 k c hk
  have hz : (cvs.zip d.cls)[k]? = some (u, c) := by rw [List.getElem?_zip_eq_some]; exact ⟨hu, hk⟩
  have e0 := a.head
  rw [h.blk.cell, h0] at e0
  injection e0 with e0
  subst e0
  have := h2.cell ((flat_at cl_len _ k 0 _ hz (by decide)).trans (show ([u, .int .i64 c.sp, .int .i64 c.fr] : List Value)[0]? = some u from rfl))
  rw [Nat.add_zero, a.lit] at this
  injection this with this
  rw [← hup hgk.symm]; exact this.symm
end
end Go.Proofs.YtpmdnbdmocdngaaGreat

namespace Go.Proofs.YtpmdnbdmocdngaaGreat
open Go.ChangeShapes Go.WideShapes Go.ChangeAt Go.RowKit
set_option linter.unusedVariables false
set_option linter.unusedSimpArgs false

theorem infoClm : (Tryz.prog.info? 206).map (fun i => (i.zero, i.size, i.bytes)) = some (some (.agg #[.slice none 0 0, .int .i64 0, .int .i64 0]), 3, 40) := by kernel_rfl
/-- What is not the search's stays, and so does its part, but for one block's. -/
structure Stg (g : Nat) (τ τ' : Nat → Nat) (w w' : World) : Prop where
  os : w'.os = w.os
  tape : w'.tape = w.tape
  output : w'.output = w.output
  size : w.heap.size ≤ w'.heap.size
  block : ∀ b, b < w.heap.size → τ b = 0 → b ≠ g → w'.heap[b]? = w.heap[b]?
  tag : ∀ b, b < w.heap.size → τ b = 0 → b ≠ g → τ' b = 0
/-- A claim more, and watched. -/
def Sd.claimed (d : Sd) (ls : List Nat) (sp : Int) (q0 q1 : Nat) (v : Value) : Sd := (({ d with cls := d.cls ++ [⟨ls, sp, 2⟩], gk := d.cls.length, gu := v } : Sd).watched q0 (d.cls.length, q1)).watched q1 (d.cls.length, q0)
section
variable {B : Nat} {τ : Nat → Nat} {w : World} {p n : Nat} {d : Sd}
set_option maxHeartbeats 1600000 in
theorem claim_any (h : Sr B τ w p n d) (hn : n ≤ 65536) (hm : d.cls.length < 2147483648) {A : Option Addr} {ls : List Nat} {cap : Nat} (hr : RowN τ 0 w 138 1 (.slice A ls.length cap) ls.length (n32 ls)) (hge : ∀ g, Value.ownBlock (.slice A ls.length cap) = some g → B ≤ g) (sp : Int) {q0 q1 : Nat} (h0 : ls[0]? = some q0) (h1 : ls[1]? = some q1) (hq0 : q0 < 2 * n) (hq1 : q1 < 2 * n) (hgq0 : q0 ≠ d.gq) (hgq1 : q1 ≠ d.gq) (hFb : ∀ q, (d.F q).length ≤ 4294967295) :
    Calls Tryz.prog 88 #[ptr p, .slice A ls.length cap, .int .i64 sp] w fun e w' => e = .returned (.int .i32 (d.cls.length : Int)) ∧ ∃ τ' g, A = some ⟨g, 0, none⟩ ∧ Sr B τ' w' p n (d.claimed ls sp q0 q1 (.slice A ls.length cap)) ∧ Stg g τ τ' w w' := by
  have hl1 := (List.getElem?_eq_some_iff.1 h1).1
  obtain ⟨g, rfl⟩ : ∃ g, A = some ⟨g, 0, none⟩ := by
    rcases hr.at with ⟨_, h⟩ | ⟨g, cap', cur, h0, _⟩
    · omega
    · injection h0 with h0 _ _; exact ⟨g, h0⟩
  have hg0 : τ g = 0 := hr.2 g rfl
  have hgB := hge g rfl
  obtain ⟨τ1, hτ1⟩ : ∃ τ1 : Nat → Nat, τ1 = fun b => if b = g then 101 + 2 * d.cls.length else τ b := ⟨_, rfl⟩
  have R : Sr B τ1 w p n d := by obtain ⟨pcs, h⟩ := h; rw [hτ1]; exact ⟨pcs, h.retag _ hg0 hgB⟩
  have hu : Row τ1 (101 + 2 * d.cls.length) w 138 (.slice (some ⟨g, 0, none⟩) ls.length cap) (n32 ls) := by
    refine ⟨by have := hr.1; rwa [show (n32 ls).length = ls.length by simp [n32]], fun b hb => ?_⟩
    have : g = b := by simpa [Value.ownBlock] using hb
    subst this; rw [hτ1]; exact if_pos rfl
  have HT := Lib.hid (show ∀ (τ' : Nat → Nat) (W : World), Stp τ1 τ' w W → Stg g τ τ' w W from fun τ' W k => by
    have e : ∀ b, τ b = 0 → b ≠ g → τ1 b = 0 := fun b hb hne => by rw [hτ1]; exact (if_neg hne).trans hb
    exact ⟨k.kept.os, k.kept.tape, k.kept.output, k.kept.size, fun b hb hb0 hne => k.kept.block b hb (fun hn => hn (e b hb0 hne)), fun b hb hb0 hne => k.tag b hb (e b hb0 hne)⟩)
  obtain ⟨AC, c0, cvs, f0, ho, fin⟩ := R.fin_cl hu sp 2
  have HO := Lib.hid ho
  have FIN := Lib.hid fin
  have zp := R.plt
  obtain ⟨i0, hi0, hz0, hz1, hz2⟩ := info_parts infoClm
  have HI := Lib.hid (show _ ∧ _ ∧ _ ∧ _ from ⟨hi0, hz0, hz1, hz2⟩)
  obtain ⟨m, hmm⟩ : ∃ m, d.cls.length = m := ⟨_, rfl⟩
  have HM := Lib.hid hmm
  have HK := Lib.hid (show ∀ (W : World) (τ' : Nat → Nat), Sr B τ' W p n { d with cls := d.cls ++ [⟨ls, sp, 2⟩], gk := m, gu := .slice (some ⟨g, 0, none⟩) ls.length cap } → Calls Tryz.prog 125 #[ptr p, .int .i32 (m : Int)] W fun e w' => e = .returned (.tuple #[]) ∧ ∃ τ'', Sr B τ'' w' p n (d.claimed ls sp q0 q1 (.slice (some ⟨g, 0, none⟩) ls.length cap)) ∧ Stp τ' τ'' W w' from fun W τ' r => by
    have := look_any (k := m) (c := ⟨ls, sp, 2⟩) r hn (by show (d.cls ++ [(⟨ls, sp, 2⟩ : Cl)])[m]? = _; rw [← hmm]; simp) (by omega) h0 h1 hq0 hq1 hgq0 hgq1 hFb
    rw [← hmm] at this ⊢
    exact this)
  rw [hmm] at hm f0 HO FIN ⊢
  have hcv : IntKind.i32.wrap (m : Int) = (m : Int) := by rw [IntKind.wrap_i32]; omega
  clear h hr hge h0 h1 hq0 hq1 hgq0 hgq1 hFb hi0 hz0 hz1 hz2 hu R ho fin hmm hτ1
  go_enter Tryz.func88, Tryz.ntmps88
  go_wp2_with (at_builtin; refine wpList_append_lies _ rfl _ _ _ rfl 0 206 i0 _ 3 40 Tryz.underlying134 HI.out.1 HI.out.2.1 HI.out.2.2.1 HI.out.2.2.2 rfl (by omega) (.slice AC m c0) m (clCells (cvs.zip d.cls)) rfl (HO.out.alloc _) ⟨w.heap.size, 0, none⟩ 1 1 [.slice (some ⟨g, 0, none⟩) ls.length cap, .int .i64 sp, .int .i64 2] rfl rfl (World.news_of_block (cs := #[.slice (some ⟨g, 0, none⟩) ls.length cap, .int .i64 sp, .int .i64 2]) (t := 206) (fr := (0, 0)) (new_heap w _)) (by simp [Value.oneCell']) (by omega) (by unfold maxLen; omega) (by omega) (Nat.zero_le _) (w.heap.size + 1) (by simp) ?_; intro g1 c1 wp hown1 hg1 hat1 hlt1; have HF := FIN.out wp c1 g1 hg1 hown1 hat1; have c9 := HF.1.1; have r9 := HF.1.2; have HFF := Lib.hid HF.2; clear hown1 hg1 hat1 hlt1 HF)
  obtain ⟨τ2, r2, t2⟩ := HFF.out
  refine (HK.out _ τ2 r2).mono ?_
  rintro e w' ⟨rfl, τ3, r3, t3⟩
  have HE : Hid (∃ τ' g', some (⟨g, 0, none⟩ : Addr) = some ⟨g', 0, none⟩ ∧ Sr B τ' w' p n (d.claimed ls sp q0 q1 (.slice (some ⟨g, 0, none⟩) ls.length cap)) ∧ Stg g' τ τ' w w') := ⟨τ3, g, rfl, r3, HT.out _ _ (t2.trans t3)⟩
  clear r2 t2 r3 t3 HFF
  go_wp2_with fail
  go_ret
  exact ⟨rfl, HE.out⟩
end
end Go.Proofs.YtpmdnbdmocdngaaGreat

namespace Go.Proofs.YtpmdnbdmocdngaaGreat
open Go.RowKit
set_option linter.unusedVariables false
set_option linter.unusedSimpArgs false

theorem snoc_cases {α : Type} {l : List α} {x y : α} {i : Nat} (h : (l ++ [x])[i]? = some y) : (i < l.length ∧ l[i]? = some y) ∨ (i = l.length ∧ y = x) := by
  by_cases hi : i < l.length
  · rw [List.getElem?_append_left hi] at h; exact .inl ⟨hi, h⟩
  · have := (List.getElem?_eq_some_iff.1 h).1
    simp at this
    obtain rfl : i = l.length := by omega
    simp at h
    exact .inr ⟨rfl, h.symm⟩
section
variable {n : Nat} {K0 : Nat → Prop} {Mo : (Nat → Bool) → Prop} {d : Sd} {ls : List Nat} {sp : Int} {q0 q1 : Nat} {va : Value}
theorem claimed_F (hne : q0 ≠ q1) (r : Nat) : (d.claimed ls sp q0 q1 va).F r = if r = q1 then d.F q1 ++ [(d.cls.length, q0)] else if r = q0 then d.F q0 ++ [(d.cls.length, q1)] else d.F r := by
  show (if r = q1 then (if q1 = q0 then d.F q0 ++ [(d.cls.length, q1)] else d.F q1) ++ [(d.cls.length, q0)] else (if r = q0 then d.F q0 ++ [(d.cls.length, q1)] else d.F r)) = _
  by_cases e : r = q1
  · rw [if_pos e, if_pos e, if_neg (fun e => hne e.symm)]
  · rw [if_neg e, if_neg e]
theorem Wt.claim (h : Wt n d.cls d.F) (h0 : ls[0]? = some q0) (h1 : ls[1]? = some q1) (hq0 : q0 < 2 * n) (hq1 : q1 < 2 * n) (hne : q0 ≠ q1) : Wt n (d.claimed ls sp q0 q1 va).cls (d.claimed ls sp q0 q1 va).F := by
  have hc : (d.claimed ls sp q0 q1 va).cls = d.cls ++ [⟨ls, sp, 2⟩] := rfl
  have new : (d.cls ++ [(⟨ls, sp, 2⟩ : Cl)])[d.cls.length]? = some ⟨ls, sp, 2⟩ := by simp
  have old : ∀ {k : Nat} {c : Cl}, d.cls[k]? = some c → (d.cls ++ [(⟨ls, sp, 2⟩ : Cl)])[k]? = some c := fun {k c} hk => by
    rw [List.getElem?_append_left (List.getElem?_eq_some_iff.1 hk).1]; exact hk
  have oldw : ∀ q, q < 2 * n → ∀ k y, (k, y) ∈ d.F q → ∃ c, (d.cls ++ [(⟨ls, sp, 2⟩ : Cl)])[k]? = some c ∧ (c.ls[0]? = some q ∨ c.ls[1]? = some q) ∧ y ∈ c.ls ∧ y ≠ q := fun q hq k y hm => by
    obtain ⟨c, a, b⟩ := h.wa q hq k y hm
    exact ⟨c, old a, b⟩
  have nodup : ∀ q, q < 2 * n → ∀ z : Nat, ((d.F q ++ [(d.cls.length, z)]).map (·.1)).Nodup := fun q hq z => by
    rw [List.map_append, List.nodup_append]
    refine ⟨h.wc q hq, by simp, fun a ha b hb e => ?_⟩
    have hb : b = d.cls.length := by simpa using hb
    subst hb; subst e
    obtain ⟨⟨k, y⟩, hm, e⟩ := List.mem_map.1 ha
    obtain ⟨c, hc, _⟩ := h.wa q hq k y hm
    have := (List.getElem?_eq_some_iff.1 hc).1
    have e : k = d.cls.length := e
    omega
  rw [hc]
  refine ⟨fun q hq k y hm => ?_, fun k c i x hk hi hx => ?_, fun q hq => ?_, fun q hq => ?_⟩
  · rw [claimed_F hne] at hm
    split at hm
    · rename_i e; subst e
      rcases List.mem_append.1 hm with hm | hm
      · exact oldw _ hq k y hm
      · have hm := List.mem_singleton.1 hm
        injection hm with e1 e2; subst e1; subst e2
        exact ⟨_, new, .inr h1, List.mem_of_getElem? h0, hne⟩
    · split at hm
      · rename_i _ e; subst e
        rcases List.mem_append.1 hm with hm | hm
        · exact oldw _ hq k y hm
        · have hm := List.mem_singleton.1 hm
          injection hm with e1 e2; subst e1; subst e2
          exact ⟨_, new, .inl h0, List.mem_of_getElem? h1, fun e => hne e.symm⟩
      · exact oldw q hq k y hm
  · rw [claimed_F hne]
    rcases snoc_cases hk with ⟨_, hk⟩ | ⟨rfl, rfl⟩
    · obtain ⟨y, hy⟩ := h.wb k c i x hk hi hx
      refine ⟨y, ?_⟩
      split
      · rename_i e; rw [← e]; exact List.mem_append_left _ hy
      · split
        · rename_i e; rw [← e]; exact List.mem_append_left _ hy
        · exact hy
    · match i, hi with
      | 0, _ =>
        have e : q0 = x := by rw [h0] at hx; injection hx
        subst e
        rw [if_neg hne, if_pos rfl]
        exact ⟨q1, by simp⟩
      | 1, _ =>
        have e : q1 = x := by rw [h1] at hx; injection hx
        subst e
        rw [if_pos rfl]
        exact ⟨q0, by simp⟩
  · rw [claimed_F hne]
    split
    · exact nodup _ hq1 _
    · split
      · exact nodup _ hq0 _
      · exact h.wc q hq
  · rw [claimed_F hne, if_neg (by omega), if_neg (by omega)]
    exact h.wd q hq
theorem Iv.claim (h : Iv n K0 Mo d) (hl : 2 ≤ ls.length) (hnd : ls.Nodup) (hlt : ∀ q ∈ ls, q < 2 * n ∧ ¬ K0 q ∧ ¬ K0 (oth q)) (hsem : ∀ m, Mo m → ∃ q ∈ ls, lt_ m q = true) (hb : d.cls.length + 1 < 2147483648) (h0 : ls[0]? = some q0) (h1 : ls[1]? = some q1) : Iv n K0 Mo (d.claimed ls sp q0 q1 va) := by
  have hne : q0 ≠ q1 := nd_ne hnd (by decide) h0 h1
  have hq0 := (hlt q0 (List.mem_of_getElem? h0)).1
  have hq1 := (hlt q1 (List.mem_of_getElem? h1)).1
  have L := h.L
  have T := h.T
  refine ⟨⟨L.nb, L.wo, L.dp, L.wy, L.lk, L.sc, L.se, L.co, L.tr, L.ma, L.nu⟩, ⟨T.w, T.tl, T.nd, T.one, T.k0, T.ma, T.mb, T.dp, T.nx, T.mx⟩, ⟨fun k c hk => ?_, fun k c hk => ?_, fun k c hk => ?_, fun k c hk => ?_⟩, h.W.claim h0 h1 hq0 hq1 hne, fun j q hj hlv => ?_, fun m hm => ?_, ?_⟩
  · rcases snoc_cases (show (d.cls ++ [(⟨ls, sp, 2⟩ : Cl)])[k]? = some c from hk) with ⟨_, hk⟩ | ⟨_, rfl⟩
    · exact h.C.len k c hk
    · exact hl
  · rcases snoc_cases (show (d.cls ++ [(⟨ls, sp, 2⟩ : Cl)])[k]? = some c from hk) with ⟨_, hk⟩ | ⟨_, rfl⟩
    · exact h.C.nd k c hk
    · exact hnd
  · rcases snoc_cases (show (d.cls ++ [(⟨ls, sp, 2⟩ : Cl)])[k]? = some c from hk) with ⟨_, hk⟩ | ⟨_, rfl⟩
    · exact h.C.lt k c hk
    · exact hlt
  · rcases snoc_cases (show (d.cls ++ [(⟨ls, sp, 2⟩ : Cl)])[k]? = some c from hk) with ⟨_, hk⟩ | ⟨_, rfl⟩
    · exact h.C.fr k c hk
    · exact ⟨2, rfl, Nat.le_refl _, hl⟩
  · rcases h.Y j q hj hlv with a | ⟨a, k, c, b, e, f⟩
    · exact .inl a
    · exact .inr ⟨a, k, c, b, by show (d.cls ++ [(⟨ls, sp, 2⟩ : Cl)])[k]? = _; rw [List.getElem?_append_left (List.getElem?_eq_some_iff.1 e).1]; exact e, f⟩
  · obtain ⟨a, b⟩ := h.S m hm
    refine ⟨fun k c hk => ?_, b⟩
    rcases snoc_cases (show (d.cls ++ [(⟨ls, sp, 2⟩ : Cl)])[k]? = some c from hk) with ⟨_, hk⟩ | ⟨_, rfl⟩
    · exact a k c hk
    · exact hsem m hm
  · show (d.cls ++ [_]).length < _
    rw [List.length_append]; exact hb
theorem Pr.claim {E : Nat → Nat → Prop} (h : Pr d E) (hnew : ∀ (i x : Nat), i < 2 → ls[i]? = some x → (∃ j, j < d.nx ∧ d.tr[j]? = some (oth x)) → ∃ y ∈ ls, wv d.wo y = 1 ∧ dpt d.dp y ≤ dpt d.dp x) : Pr (d.claimed ls sp q0 q1 va) E := by
  intro k c i x hk hi hx hj
  rcases snoc_cases (show (d.cls ++ [(⟨ls, sp, 2⟩ : Cl)])[k]? = some c from hk) with ⟨_, hk⟩ | ⟨_, rfl⟩
  · exact h k c i x hk hi hx hj
  · exact .inr (hnew i x hi hx hj)
/-- The numbers that claims ask for wait, or are settled. -/
def Qc (d : Sd) : Prop := ∀ (k : Nat) (c : Cl) (q : Nat), d.cls[k]? = some c → q ∈ c.ls → wv d.wo q = 0 → q / 2 ∈ d.hp
theorem Iv.queue (h : Iv n K0 Mo d) (hp : List Nat) (pl : List Int) : Iv n K0 Mo { d with hp := hp, pl := pl } := by
  have L := h.L
  have T := h.T
  exact ⟨⟨L.nb, L.wo, L.dp, L.wy, L.lk, L.sc, L.se, L.co, L.tr, L.ma, L.nu⟩, ⟨T.w, T.tl, T.nd, T.one, T.k0, T.ma, T.mb, T.dp, T.nx, T.mx⟩, h.C, h.W, h.Y, h.S, h.hb⟩
end
end Go.Proofs.YtpmdnbdmocdngaaGreat

namespace Go.Proofs.YtpmdnbdmocdngaaGreat
open Go.ChangeShapes Go.WideShapes Go.ChangeAt Go.RowKit
set_option linter.unusedVariables false
set_option linter.unusedSimpArgs false

/-- The literal that a number with its sign is. -/
def litOf (l : Int) : Nat := if l < 0 then 2 * (-l - 1).toNat + 1 else 2 * (l - 1).toNat
theorem litOf_lt {l : Int} {n : Nat} (h0 : l ≠ 0) (h1 : -(n : Int) ≤ l) (h2 : l ≤ n) : litOf l < 2 * n := by unfold litOf; split <;> omega
theorem lit_any (l : Int) (w : World) (h0 : l ≠ 0) (h1 : -65536 ≤ l) (h2 : l ≤ 65536) : Calls Tryz.prog 62 #[.int .i64 l] w fun e w' => e = .returned (.int .i32 (litOf l : Int)) ∧ w = w' := by
  go_enter Tryz.func62, Tryz.ntmps62
  by_cases hs : l < 0
  · go_wp2_with fail
    go_ret
    refine ⟨?_, rfl⟩
    have e : (litOf l : Int) = 2 * (-l - 1) + 1 := by unfold litOf; rw [if_pos hs]; omega
    rw [e]; rfl
  · have e : (litOf l : Int) = 2 * (l - 1) := by unfold litOf; rw [if_neg hs]; omega
    go_wp2_with fail
    go_ret
    exact ⟨rfl, rfl⟩
/-- How many decisions may be made. -/
def grant (n : Nat) (b : Int) : Int := if 0 < b / 2 ^ (min (n : Int) 40).toNat then 9223372036854775807 else b
theorem granted_any (n : Nat) (b : Int) (w : World) (hn : n ≤ 65536) (hb : 0 ≤ b) (hb2 : b ≤ 9223372036854775807) : Calls Tryz.prog 32 #[.int .i64 (n : Int), .int .i64 b] w fun e w' => e = .returned (.int .i64 (grant n b)) ∧ w = w' := by
  have hg : 0 < b / 2 ^ (min (n : Int) 40).toNat → grant n b = 9223372036854775807 := fun h => if_pos h
  have hg2 : b / 2 ^ (min (n : Int) 40).toNat ≤ 0 → grant n b = b := fun h => if_neg (by omega)
  generalize grant n b = G at *
  go_enter Tryz.func32, Tryz.ntmps32
  go_wp2_with fail
  · rename_i h
    obtain rfl := hg h
    go_ret
    exact ⟨rfl, rfl⟩
  · rename_i h
    obtain rfl := hg2 h
    go_ret
    exact ⟨rfl, rfl⟩
end Go.Proofs.YtpmdnbdmocdngaaGreat

namespace Go.Proofs.YtpmdnbdmocdngaaGreat
open Go.ChangeShapes Go.WideShapes Go.ChangeAt Go.RowKit
set_option linter.unusedVariables false
set_option linter.unusedSimpArgs false

/-- The open literals. -/
def opn (wo : List Int) (r : List Int) : List Nat := (r.filter fun x => decide (wv wo (litOf x) = 0)).map litOf
theorem opn_take {wo : List Int} {r : List Int} {k : Nat} {x : Int} (h : r[k]? = some x) : opn wo (r.take (k + 1)) = opn wo (r.take k) ++ (if wv wo (litOf x) = 0 then [litOf x] else []) := by
  obtain ⟨h1, h2⟩ := List.getElem?_eq_some_iff.1 h
  unfold opn
  rw [List.take_succ_eq_append_getElem h1, h2, List.filter_append, List.map_append]
  congr 1
  by_cases e : wv wo (litOf x) = 0
  · rw [if_pos e, List.filter_cons, if_pos (by simpa using e)]; rfl
  · rw [if_neg e, List.filter_cons, if_neg (by simpa using e)]; rfl
theorem opn_mem {wo : List Int} {r : List Int} {q : Nat} (h : q ∈ opn wo r) : ∃ x ∈ r, litOf x = q ∧ wv wo q = 0 := by
  obtain ⟨x, hx, rfl⟩ := List.mem_map.1 h
  obtain ⟨a, b⟩ := List.mem_filter.1 hx
  exact ⟨x, a, rfl, by simpa using b⟩
theorem opn_len {wo : List Int} {r : List Int} : (opn wo r).length ≤ r.length := by unfold opn; rw [List.length_map]; exact List.length_filter_le _ _
theorem litOf_inj {x y : Int} (hx : x ≠ 0) (hy : y ≠ 0) (h : litOf x = litOf y) : x = y := by unfold litOf at h; split at h <;> split at h <;> omega
/-- Ready: claims are taken, nothing is decided. -/
structure Rdy (n : Nat) (K0 : Nat → Prop) (Mo : (Nat → Bool) → Prop) (d : Sd) : Prop where
  I : Iv n K0 Mo d
  Q : QOk n d.hp d.pl
  C : Qc d
  tr : d.tr = []
  ma : d.ma = []
  nx : d.nx = 0
  lk : Likes n d.lk
  gq : 2 * n ≤ d.gq
  se : ∀ u, d.se.getD u false = false
  nu : d.nu = []
  pc : d.pc = 0
  pt : d.pt = 1
  pu : d.pu = 1
  le : d.le = 0
  mo : d.mo = 2000
  dpn : ∀ v ∈ d.dp, v ≤ n
  em : d.cls = [] → d.hp = []
/-- What a clause asks for, by its row and whether it always holds. -/
def TkRel (d d' : Sd) (r : List Int) (b : Bool) : Prop := (d'.cls = d.cls ∧ (b = true ∨ ∃ x ∈ r, wv d.wo (litOf x) = 1)) ∨ ∃ ls fr, d'.cls = d.cls ++ [⟨ls, 0, fr⟩] ∧ ∀ q ∈ ls, ∃ x ∈ r, litOf x = q
def TkPost (B : Nat) (τ : Nat → Nat) (w : World) (p n : Nat) (K0 : Nat → Prop) (Mo : (Nat → Bool) → Prop) (d : Sd) (r : List Int) (b : Bool) (e : Ending) (w' : World) : Prop :=
  e = .returned (.tuple #[]) ∧ ∃ τ' d', Sr B τ' w' p n d' ∧ Stp τ τ' w w' ∧ Rdy n K0 Mo d' ∧ d'.wo = d.wo ∧ TkRel d d' r b
section
variable {B : Nat} {τ : Nat → Nat} {w : World} {p n : Nat} {d : Sd} {K0 : Nat → Prop} {Mo : (Nat → Bool) → Prop}
/-- The claim of a clause's open literals. -/
theorem Rdy.claim (R : Rdy n K0 Mo d) {r : List Int} (hnd : r.Nodup) (hlit : ∀ x ∈ r, x ≠ 0 ∧ -(n : Int) ≤ x ∧ x ≤ n) (hno : ∀ x ∈ r, wv d.wo (litOf x) ≠ 1) (hl : 2 ≤ (opn d.wo r).length) (hsem : ∀ m, Mo m → ∃ x ∈ r, lt_ m (litOf x) = true) (hneg : ∀ m, Mo m → ∀ q, q < 2 * n → K0 q → lt_ m q = true) (hcls : d.cls.length + 1 < 2147483648) :
    (opn d.wo r).Nodup ∧ (∀ q ∈ opn d.wo r, q < 2 * n ∧ ¬ K0 q ∧ ¬ K0 (oth q)) ∧ ∀ m, Mo m → ∃ q ∈ opn d.wo r, lt_ m q = true := by
  have hk0 : ∀ q, q < 2 * n → (K0 q ↔ wv d.wo q = 1) := fun q hq => by
    rw [R.I.T.one q hq, R.tr]; simp
  refine ⟨?_, fun q hq => ?_, fun m hm => ?_⟩
  · unfold opn
    refine List.pairwise_map.2 ((List.Pairwise.filter _ hnd).imp_of_mem fun {a b} ha hb hab => ?_)
    have h1 := hlit a (List.mem_filter.1 ha).1
    have h2 := hlit b (List.mem_filter.1 hb).1
    exact fun e => hab (litOf_inj h1.1 h2.1 e)
  · obtain ⟨x, hx, rfl, h0⟩ := opn_mem hq
    obtain ⟨h1, h2, h3⟩ := hlit x hx
    have hlt := litOf_lt h1 h2 h3
    have ho := R.I.T.w.opp _ hlt
    rw [hk0 _ hlt, hk0 _ (oth_lt hlt)]
    exact ⟨hlt, by omega, by omega⟩
  · obtain ⟨x, hx, ht⟩ := hsem m hm
    obtain ⟨h1, h2, h3⟩ := hlit x hx
    have hlt := litOf_lt h1 h2 h3
    have hr := R.I.T.w.rng (litOf x)
    have h4 := hno x hx
    by_cases h0 : wv d.wo (litOf x) = 0
    · exact ⟨litOf x, List.mem_map.2 ⟨x, List.mem_filter.2 ⟨hx, by simpa using h0⟩, rfl⟩, ht⟩
    · exfalso
      have ho := R.I.T.w.opp _ hlt
      have hk : K0 (oth (litOf x)) := (hk0 _ (oth_lt hlt)).2 (by omega)
      have := hneg m hm _ (oth_lt hlt) hk
      rw [lt_oth, ht] at this; cases this
end
end Go.Proofs.YtpmdnbdmocdngaaGreat

namespace Go.Proofs.YtpmdnbdmocdngaaGreat
open Go.RowKit
set_option linter.unusedVariables false
set_option linter.unusedSimpArgs false

/-- Two searches that differ in what does not matter for what follows. -/
structure Same (d d' : Sd) : Prop where
  cls : d'.cls = d.cls
  F : d'.F = d.F
  wo : d'.wo = d.wo
  tr : d'.tr = d.tr
  ma : d'.ma = d.ma
  nx : d'.nx = d.nx
  dp : d'.dp = d.dp
  wy : d'.wy = d.wy
section
variable {n : Nat} {K0 : Nat → Prop} {Mo : (Nat → Bool) → Prop} {d d' : Sd}
theorem Iv.same (h : Iv n K0 Mo d) (s : Same d d') (L : Len n d') : Iv n K0 Mo d' := by
  obtain ⟨e1, e2, e3, e4, e5, e6, e7, e8⟩ := s
  have T := h.T
  refine ⟨L, ⟨by rw [e3]; exact T.w, by rw [e4]; exact T.tl, by rw [e4]; exact T.nd, by rw [e3, e4]; exact T.one, by rw [e4]; exact T.k0, by rw [e5]; exact T.ma, by rw [e4, e5]; exact T.mb, by rw [e4, e5, e7]; exact T.dp, by rw [e4, e6]; exact T.nx, by rw [e5, e6]; exact T.mx⟩, by rw [e1]; exact h.C, by rw [e1, e2]; exact h.W, ?_, ?_, by rw [e1]; exact h.hb⟩
  · unfold Wy; rw [e1, e4, e5, e8]; exact h.Y
  · unfold Sem; rw [e1, e4, e5]; exact h.S
theorem Pr.same {E : Nat → Nat → Prop} (h : Pr d E) (s : Same d d') : Pr d' E := by
  obtain ⟨e1, e2, e3, e4, e5, e6, e7, e8⟩ := s
  unfold Pr; rw [e1, e3, e4, e6, e7]; exact h
theorem Iv.back (h : Iv n K0 Mo d) {m fr : Nat} (hm : d.ma[m]? = some fr) {lk' hp' : List Nat} {pl' : List Int} (hl : lk'.length = n) : Iv n K0 Mo (d.back m fr lk' hp' pl') := by
  have L := h.L
  refine ⟨⟨L.nb, by show (unset _ _).length = _; rw [unset_len]; exact L.wo, L.dp, L.wy, hl, L.sc, L.se, L.co, ?_, ?_, L.nu⟩, h.T.back hm _ _ _, h.C, h.W, h.Y.back h.T hm _ _ _, h.S.back h.T hm _ _ _, h.hb⟩
  · show (d.tr.take fr).length ≤ n
    rw [List.length_take]; have := L.tr; omega
  · show (d.ma.take m).length ≤ n
    rw [List.length_take]; have := L.ma; omega
/-- What is not yet followed is taken back. -/
theorem Pr.back_ex (v : Iv n K0 Mo d) {gone : Nat} (p : Pr d (fun _ x => x = gone)) (hpos : ∃ j, d.tr[j]? = some (oth gone) ∧ j + 1 = d.nx ∧ ∀ m ∈ d.ma, m ≤ j) {m fr : Nat} (hm : d.ma[m]? = some fr) (lk' hp' : List Nat) (pl' : List Int) : Pr (d.back m fr lk' hp' pl') (fun _ _ => False) := by
  have pb := p.back v.T v.C hm lk' hp' pl'
  intro k c i x hk hi hx hj
  rcases pb k c i x hk hi hx hj with e | h
  · exfalso
    subst e
    obtain ⟨j, hj1, _, hj3⟩ := hpos
    obtain ⟨j', hj', hj2⟩ := hj
    have hj' : j' < fr := hj'
    have hj2 : d.tr[j']? = some (oth x) := (take_at (show (d.tr.take fr)[j']? = some (oth x) from hj2)).2
    obtain ⟨e, _⟩ := v.T.uniq hj1 hj2 rfl
    have := hj3 fr (List.mem_of_getElem? hm)
    omega
  · exact .inr h
/-- At no decision: a literal that follows from all holds. -/
theorem Iv.hold0 (v : Iv n K0 Mo d) (hma : d.ma = []) {q : Nat} (hq : q < 2 * n) (h0 : wv d.wo q = 0) (hk : ¬ K0 q ∧ ¬ K0 (oth q)) (hs : ∀ m, Mo m → lt_ m q = true) : Iv n K0 Mo (d.held q (-1)) := by
  refine ⟨v.L.held v.T hq h0 _, v.T.held v.L.dp hq h0 hk _, v.C, v.W, fun j r hj hl => ?_, fun m hm => ?_, v.hb⟩
  · exfalso
    have hl : 1 ≤ lev d.ma j := hl
    rw [hma] at hl
    unfold lev at hl
    simp at hl
  · obtain ⟨a, b⟩ := v.S m hm
    refine ⟨a, fun j r hj hl => ?_⟩
    have hj : (d.tr ++ [q])[j]? = some r := hj
    rcases snoc_cases hj with ⟨_, hj⟩ | ⟨_, rfl⟩
    · exact b j r hj hl
    · exact hs m hm
/-- What a lesson is, at the time of the clash. -/
structure Lsn (n : Nat) (K0 : Nat → Prop) (Mo : (Nat → Bool) → Prop) (d : Sd) (z : Nat) (M : List Nat) : Prop where
  zz : ∃ i, d.tr[i]? = some (oth z) ∧ lev d.ma i = d.ma.length
  low : ∀ q ∈ M, ∃ j, d.tr[j]? = some (oth q) ∧ 1 ≤ lev d.ma j ∧ lev d.ma j < d.ma.length
  nd : ((z :: M).map (· / 2)).Nodup
  imp : ∀ m, Mo m → ∃ q ∈ z :: M, lt_ m q = true
  mx : ∀ q1, M[0]? = some q1 → ∀ q ∈ M, dpt d.dp q ≤ dpt d.dp q1
theorem Les.lsn (v : Iv n K0 Mo d) {r : Nt} {x i : Nat} {tl M : List Nat} (l : Les n Mo d r x i tl) (pm : M.Perm (kp (d.noted r) tl)) (mx : ∀ q1, M[0]? = some q1 → ∀ q ∈ M, dpt d.dp q ≤ dpt d.dp q1) : Lsn n K0 Mo d (oth x) M := by
  have sub : ∀ q ∈ M, q ∈ tl := fun q hq => (List.mem_filter.1 (pm.mem_iff.1 hq)).1
  refine ⟨⟨i, by rw [oth_oth]; exact l.at_, l.lv⟩, fun q hq => (l.low q (sub q hq)).2, ?_, fun m hm => ?_, mx⟩
  · rw [List.map_cons, List.nodup_cons]
    refine ⟨fun h => ?_, ?_⟩
    · obtain ⟨q, hq, e⟩ := List.mem_map.1 h
      have e : q / 2 = oth x / 2 := e
      obtain ⟨_, j, hj, _, hl⟩ := l.low q (sub q hq)
      obtain ⟨ej, _⟩ := v.T.uniq hj l.at_ (by rw [oth_half, e, oth_half])
      have := l.lv
      rw [ej] at hl; omega
    · refine (List.Perm.nodup_iff (pm.map (· / 2))).2 ?_
      exact l.tnd.sublist ((List.filter_sublist).map _)
  · obtain ⟨q, hq, ht⟩ := kp_imp v l m hm
    refine ⟨q, ?_, ht⟩
    rcases List.mem_cons.1 hq with rfl | hq
    · exact List.mem_cons_self ..
    · exact List.mem_cons_of_mem _ (pm.mem_iff.2 hq)
theorem Lsn.same {z : Nat} {M : List Nat} (l : Lsn n K0 Mo d z M) (s : Same d d') : Lsn n K0 Mo d' z M := by
  obtain ⟨e1, e2, e3, e4, e5, e6, e7, e8⟩ := s
  exact ⟨by rw [e4, e5]; exact l.zz, by rw [e4, e5]; exact l.low, l.nd, l.imp, by rw [e7]; exact l.mx⟩
end
end Go.Proofs.YtpmdnbdmocdngaaGreat
