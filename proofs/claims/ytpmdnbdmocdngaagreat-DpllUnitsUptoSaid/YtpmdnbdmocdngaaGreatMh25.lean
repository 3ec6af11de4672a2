/-
  Parts of the proof, joined: DpllTo, DpllTp, DpllSt, DpllDg.
-/
import Derived.Test.YtpmdnbdmocdngaaGreatMh24
import Derived.Test.YtpmdnbdmocdngaaGreatMh11
import Derived.Test.YtpmdnbdmocdngaaGreatMh23

namespace Go.Proofs.YtpmdnbdmocdngaaGreat
open Go.RowKit
set_option linter.unusedVariables false
set_option linter.unusedSimpArgs false

/-- How far a search has come: what is decided counts nothing, what follows counts, the earlier the more. -/
def vl (n : Nat) (ma : List Nat) : Nat → Nat
  | 0 => 0
  | j + 1 => vl n ma j + (if j ∈ ma then 0 else 2 ^ (n - 1 - j) / 2)
theorem vl_mono (n : Nat) (ma : List Nat) (a : Nat) : ∀ t, vl n ma a ≤ vl n ma (a + t)
  | 0 => Nat.le_refl _
  | t + 1 => Nat.le_trans (vl_mono n ma a t) (Nat.le_add_right _ _)
theorem vl_step (n : Nat) (ma : List Nat) (a : Nat) : ∀ t, a + t ≤ n → vl n ma (a + t) + 2 ^ (n - (a + t)) / 2 ≤ vl n ma a + 2 ^ (n - a) / 2
  | 0, _ => Nat.le_refl _
  | t + 1, h => by
    have ih := vl_step n ma a t (by omega)
    have e : 2 ^ (n - (a + t)) = 2 * 2 ^ (n - 1 - (a + t)) := by
      rw [show n - (a + t) = (n - 1 - (a + t)) + 1 by omega, Nat.pow_succ, Nat.mul_comm]
    have e2 : n - (a + (t + 1)) = n - 1 - (a + t) := by omega
    show vl n ma (a + t) + (if a + t ∈ ma then 0 else 2 ^ (n - 1 - (a + t)) / 2) + 2 ^ (n - (a + (t + 1))) / 2 ≤ _
    rw [e2]
    rw [e] at ih
    generalize 2 ^ (n - 1 - (a + t)) = P at *
    split <;> omega
theorem pow_half (k : Nat) (h : 1 ≤ k) : 1 ≤ 2 ^ k / 2 := by
  obtain ⟨j, rfl⟩ : ∃ j, k = j + 1 := ⟨k - 1, by omega⟩
  rw [Nat.pow_succ]
  have := Nat.pos_of_ne_zero (show 2 ^ j ≠ 0 from Nat.pos_iff_ne_zero.1 (Nat.two_pow_pos j))
  omega
/-- From a on, to the end, less comes than a itself is worth. -/
theorem vl_lt (n : Nat) (ma : List Nat) {a len : Nat} (h : a < n) (h1 : a ≤ len) (h2 : len ≤ n) : vl n ma len < vl n ma a + 2 ^ (n - a) / 2 := by
  by_cases e : len = n
  · obtain ⟨t, ht⟩ : ∃ t, n = a + t + 1 := ⟨n - a - 1, by omega⟩
    have s := vl_step n ma a t (by omega)
    have p := pow_half (n - (a + t)) (by omega)
    have e3 : vl n ma len = vl n ma (a + t) := by
      rw [e, ht]
      show vl (a + t + 1) ma (a + t) + (if a + t ∈ ma then 0 else 2 ^ (a + t + 1 - 1 - (a + t)) / 2) = _
      rw [show a + t + 1 - 1 - (a + t) = 0 by omega]
      split <;> rfl
    rw [e3]; omega
  · obtain ⟨t, rfl⟩ : ∃ t, len = a + t := ⟨len - a, by omega⟩
    have s := vl_step n ma a t h2
    have p := pow_half (n - (a + t)) (by omega)
    omega
theorem vl_same (n : Nat) {ma ma' : List Nat} : ∀ (k : Nat), (∀ j, j < k → (j ∈ ma ↔ j ∈ ma')) → vl n ma k = vl n ma' k
  | 0, _ => rfl
  | k + 1, h => by
    show vl n ma k + _ = vl n ma' k + _
    rw [vl_same n k (fun j hj => h j (by omega))]
    congr 1
    simp only [h k (by omega)]
section
variable {n : Nat} {K0 : Nat → Prop} {Mo : (Nat → Bool) → Prop} {d : Sd} {z m fr : Nat} {M lk' hp' : List Nat} {pl' : List Int}
/-- A clash comes with two literals of the last decision at least. -/
theorem Cf.two (v : Iv n K0 Mo d) {k : Nat} {c : Cl} {gone : Nat} (cf : Cf n d k c gone) : ∀ m ∈ d.ma, m + 2 ≤ d.tr.length := by
  have hlen := v.C.len k c cf.at_
  obtain ⟨a, ha⟩ : ∃ a, c.ls[0]? = some a := ⟨_, List.getElem?_eq_getElem (by omega)⟩
  obtain ⟨b, hb⟩ : ∃ b, c.ls[1]? = some b := ⟨_, List.getElem?_eq_getElem (by omega)⟩
  have hab : a ≠ b := nd_ne (v.C.nd k c cf.at_) (by decide) ha hb
  obtain ⟨i, x, hi, hx, hxg⟩ : ∃ i x, i < 2 ∧ c.ls[i]? = some x ∧ x ≠ gone := by
    by_cases e : a = gone
    · exact ⟨1, b, by decide, hb, fun e2 => hab (e.trans e2.symm)⟩
    · exact ⟨0, a, by decide, ha, e⟩
  have hxm := List.mem_of_getElem? hx
  obtain ⟨hxn, _, a2⟩ := v.C.lt k c cf.at_ x hxm
  have e := v.T.w.opp x hxn
  rw [cf.all x hxm] at e
  have ht := ((v.T.one (oth x) (oth_lt hxn)).1 (by omega)).resolve_right a2
  obtain ⟨j, hj⟩ := List.getElem?_of_mem ht
  have hjl := (List.getElem?_eq_some_iff.1 hj).1
  have hjn : d.nx ≤ j := Nat.le_of_not_lt fun h => by
    rcases cf.pr k c i x cf.at_ hi hx ⟨j, h, hj⟩ with e | ⟨y, hy, h1, _⟩
    · exact hxg e
    · rw [cf.all y hy] at h1; cases h1
  obtain ⟨j0, _, h1, h2⟩ := cf.pos
  intro m hm
  have := h2 m hm
  omega
/-- What a lesson's literals are once the decisions are taken back on which they don't hang. -/
theorem Lsn.back (v : Iv n K0 Mo d) (l : Lsn n K0 Mo d z M) (hm : d.ma[m]? = some fr) (hmx : ∀ q ∈ M, dpt d.dp q ≤ m) :
    (z < 2 * n ∧ ¬ K0 z ∧ ¬ K0 (oth z)) ∧ (∀ q ∈ M, q < 2 * n ∧ ¬ K0 q ∧ ¬ K0 (oth q)) ∧ wv (d.back m fr lk' hp' pl').wo z = 0 ∧ (∀ q ∈ M, wv (d.back m fr lk' hp' pl').wo q = -1) ∧ z / 2 ∈ (d.tr.drop fr).map (· / 2) ∧ oth z ∉ d.tr.take fr := by
  have own : ∀ q, oth q ∈ d.tr → q < 2 * n ∧ ¬ K0 q ∧ ¬ K0 (oth q) := fun q h => by
    have h1 := v.T.tl _ h
    have h2 := v.T.k0 _ h
    have h3 := oth_lt h1
    rw [oth_oth] at h2 h3
    exact ⟨h3, h2.2, h2.1⟩
  have tb := v.T.back hm lk' hp' pl'
  obtain ⟨hml, _⟩ := List.getElem?_eq_some_iff.1 hm
  obtain ⟨i, hi, hlv⟩ := l.zz
  have hifr : fr ≤ i := Nat.le_of_not_lt fun h => by
    have := (v.T.lev_lt hm h).2.1
    omega
  have hzd : oth z ∈ d.tr.drop fr := List.mem_of_getElem? (i := i - fr) (by rw [List.getElem?_drop, show fr + (i - fr) = i by omega]; exact hi)
  have hzm : z / 2 ∈ (d.tr.drop fr).map (· / 2) := List.mem_map.2 ⟨oth z, hzd, oth_half z⟩
  refine ⟨own z (List.mem_of_getElem? hi), fun q hq => ?_, ?_, fun q hq => ?_, hzm, fun h => v.T.apart h hzd rfl⟩
  · obtain ⟨j, hj, _⟩ := l.low q hq
    exact own q (List.mem_of_getElem? hj)
  · show wv (unset (d.tr.drop fr) d.wo) z = 0
    rw [v.T.wv_back, if_pos hzm]
  · obtain ⟨j, hj, _⟩ := l.low q hq
    have ho := own q (List.mem_of_getElem? hj)
    have hd : dpt d.dp q = lev d.ma j := by rw [← dpt_oth, v.T.dat hj]
    have hjf : j < fr := Nat.lt_of_not_le fun h => by
      have := v.T.lev_ge hm h
      have := hmx q hq
      omega
    have hin : oth q ∈ d.tr.take fr := List.mem_of_getElem? (i := j) (by rw [List.getElem?_take_of_lt hjf]; exact hj)
    have h1 := (tb.one (oth q) (oth_lt ho.1)).2 (.inl hin)
    have h2 := tb.w.opp q ho.1
    omega
/-- One literal is learned. -/
theorem unit_turn (v : Iv n K0 Mo d) (l : Lsn n K0 Mo d z []) (p : Pr (d.back 0 fr lk' hp' pl') (fun _ _ => False)) (hm : d.ma[0]? = some fr) (hl : lk'.length = n) :
    Iv n K0 Mo ((d.back 0 fr lk' hp' pl').held z (-1)) ∧ Pr ((d.back 0 fr lk' hp' pl').held z (-1)) (fun _ _ => False) := by
  obtain ⟨⟨a1, a2, a3⟩, _, a4, _⟩ := l.back (lk' := lk') (hp' := hp') (pl' := pl') v hm (fun q hq => by cases hq)
  have vb := v.back hm (lk' := lk') (hp' := hp') (pl' := pl') hl
  refine ⟨vb.hold0 rfl a1 a4 ⟨a2, a3⟩ fun mo hmo => ?_, p.held vb.T a1 a4 _⟩
  obtain ⟨q, hq, ht⟩ := l.imp mo hmo
  rw [List.mem_singleton.1 hq] at ht; exact ht
/-- A claim is learned. -/
theorem claim_turn (v : Iv n K0 Mo d) (l : Lsn n K0 Mo d z M) (p : Pr (d.back m fr lk' hp' pl') (fun _ _ => False)) (hm : d.ma[m]? = some fr) (hl : lk'.length = n) {q1 : Nat} (h1 : M[0]? = some q1) (hq1 : dpt d.dp q1 = m) (hb : d.cls.length + 1 < 2147483648) (sp : Int) (va : Value) :
    Iv n K0 Mo (((d.back m fr lk' hp' pl').claimed (z :: M) sp z q1 va).held z (d.cls.length : Int)) ∧ Pr (((d.back m fr lk' hp' pl').claimed (z :: M) sp z q1 va).held z (d.cls.length : Int)) (fun _ _ => False) := by
  have hmx : ∀ q ∈ M, dpt d.dp q ≤ m := fun q hq => by rw [← hq1]; exact l.mx q1 h1 q hq
  obtain ⟨⟨a1, a2, a3⟩, a4, a5, a6, _, a7⟩ := l.back (lk' := lk') (hp' := hp') (pl' := pl') v hm hmx
  have vb := v.back hm (lk' := lk') (hp' := hp') (pl' := pl') hl
  have hnd : (z :: M).Nodup := by
    have := l.nd
    rw [List.nodup_iff_pairwise_ne, List.pairwise_map] at this
    exact this.imp fun h e => h (by rw [e])
  have hM : 0 < M.length := (List.getElem?_eq_some_iff.1 h1).1
  have vc := vb.claim (ls := z :: M) (sp := sp) (q0 := z) (q1 := q1) (va := va) (by rw [List.length_cons]; omega) hnd (fun q hq => by
    rcases List.mem_cons.1 hq with rfl | hq
    · exact ⟨a1, a2, a3⟩
    · exact a4 q hq) l.imp hb rfl h1
  have hk : ((d.back m fr lk' hp' pl').claimed (z :: M) sp z q1 va).cls[d.cls.length]? = some ⟨z :: M, sp, 2⟩ := by
    show (d.cls ++ [(⟨z :: M, sp, 2⟩ : Cl)])[d.cls.length]? = _
    simp
  have ho : ∀ y ∈ z :: M, y ≠ z → wv ((d.back m fr lk' hp' pl').claimed (z :: M) sp z q1 va).wo y = -1 := fun y hy hne => a6 y ((List.mem_cons.1 hy).resolve_left hne)
  have hv := vc.hold hk (List.mem_cons_self ..) a5 ho
  refine ⟨hv, ?_⟩
  -- the new claim's watches: its first literal holds, but not before that
  have pc : Pr ((d.back m fr lk' hp' pl').claimed (z :: M) sp z q1 va) (fun k x => k = d.cls.length ∧ x = q1) := by
    intro k c i x hk2 hi hx hj
    rcases snoc_cases (show (d.cls ++ [(⟨z :: M, sp, 2⟩ : Cl)])[k]? = some c from hk2) with ⟨_, hk2⟩ | ⟨rfl, rfl⟩
    · rcases p k c i x hk2 hi hx hj with h | h
      · exact absurd h id
      · exact .inr h
    · match i, hi with
      | 0, _ =>
        have e : z = x := by simpa using hx
        subst e
        obtain ⟨j, _, hj2⟩ := hj
        exact absurd (List.mem_of_getElem? (show (d.tr.take fr)[j]? = some (oth z) from hj2)) a7
      | 1, _ =>
        have e : q1 = x := by
          have hx : M[0]? = some x := by simpa using hx
          rw [h1] at hx; injection hx
        exact .inl ⟨rfl, e.symm⟩
  have ph := pc.held vc.T a1 a5 (d.cls.length : Int)
  refine ph.less fun k x he => ?_
  obtain ⟨rfl, rfl⟩ := he
  refine .inr fun c i hc hi hx => ?_
  have hc : (d.cls ++ [(⟨z :: M, sp, 2⟩ : Cl)])[d.cls.length]? = some c := hc
  rw [show (d.cls ++ [(⟨z :: M, sp, 2⟩ : Cl)])[d.cls.length]? = some ⟨z :: M, sp, 2⟩ by simp] at hc
  injection hc with hc; subst hc
  have hq1m := List.mem_of_getElem? h1
  have hzq : x / 2 ≠ z / 2 := fun e => by
    have := l.nd
    rw [List.map_cons, List.nodup_cons] at this
    exact this.1 (List.mem_map.2 ⟨x, hq1m, e⟩)
  refine ⟨z, List.mem_cons_self .., ?_, ?_⟩
  · show wv (((d.back m fr lk' hp' pl').wo.set z 1).set (oth z) (-1)) z = 1
    rw [wv_held vb.T.w a1, if_neg (fun e => oth_ne z e.symm), if_pos rfl]
  · obtain ⟨hml, _⟩ := List.getElem?_eq_some_iff.1 hm
    have e1 : dpt (((d.back m fr lk' hp' pl').claimed (z :: M) sp z x va).held z (d.cls.length : Int)).dp z = m := by
      refine dpt_of ?_
      show (d.dp.set (z / 2) (d.ma.take m).length)[z / 2]? = _
      rw [List.getElem?_set_self (by rw [v.L.dp]; omega), List.length_take, Nat.min_eq_left (by omega)]
    have e2 : dpt (((d.back m fr lk' hp' pl').claimed (z :: M) sp z x va).held z (d.cls.length : Int)).dp x = dpt d.dp x := by
      show (d.dp.set (z / 2) (d.ma.take m).length).getD (x / 2) 0 = d.dp.getD (x / 2) 0
      rw [getD_set, if_neg (fun e => hzq e.1.symm)]
    rw [e1, e2, hq1]
    exact Nat.le_refl _
/-- A clash brings the search on. -/
theorem vl_turn (v : Iv n K0 Mo d) (hm : d.ma[m]? = some fr) (h2 : fr + 2 ≤ d.tr.length) : vl n d.ma d.tr.length < vl n (d.ma.take m) (fr + 1) := by
  have hln := v.L.tr
  have h1 : vl n (d.ma.take m) fr = vl n d.ma fr := vl_same n fr fun j hj => (v.T.lev_lt hm hj).2.2.symm
  have h3 : fr ∉ d.ma.take m := fun h => by have := (v.T.marks hm).1 fr h; omega
  have h4 : fr ∈ d.ma := List.mem_of_getElem? hm
  have h5 := vl_lt n d.ma (a := fr + 1) (len := d.tr.length) (by omega) (by omega) hln
  have h6 : vl n d.ma (fr + 1) = vl n d.ma fr := by
    show vl n d.ma fr + (if fr ∈ d.ma then 0 else _) = _
    rw [if_pos h4]; rfl
  have h7 : vl n (d.ma.take m) (fr + 1) = vl n d.ma fr + 2 ^ (n - 1 - fr) / 2 := by
    show vl n (d.ma.take m) fr + (if fr ∈ d.ma.take m then 0 else _) = _
    rw [if_neg h3, h1]
  rw [h6, show n - (fr + 1) = n - 1 - fr by omega] at h5
  omega
end
end Go.Proofs.YtpmdnbdmocdngaaGreat

namespace Go.Proofs.YtpmdnbdmocdngaaGreat
open Go.RowKit
set_option linter.unusedVariables false
set_option linter.unusedSimpArgs false

/-- Between two rounds of a search. -/
structure Ru (n : Nat) (K0 : Nat → Prop) (Mo : (Nat → Bool) → Prop) (d : Sd) : Prop where
  I : Iv n K0 Mo d
  P : Pr d (fun _ _ => False)
  Q : QOk n d.hp d.pl
  C : Qc d
  lk : Likes n d.lk
  gq : 2 * n ≤ d.gq
  se : ∀ u, d.se.getD u false = false
  nu : d.nu = []
  dpn : ∀ v ∈ d.dp, v ≤ n
/-- The bounds of the counters. -/
structure Pce (d : Sd) : Prop where
  c0 : 0 ≤ d.pc
  c1 : d.pc < 1152921504606846976
  u0 : 0 ≤ d.pu
  u1 : d.pu < 1152921504606
  t0 : 0 ≤ d.pt
  t1 : d.pt < 1152921504606846976
  l0 : 0 ≤ d.le
  l1 : d.le < 1152921504606846976
section
variable {n : Nat} {K0 : Nat → Prop} {Mo : (Nat → Bool) → Prop} {d : Sd} {z m fr : Nat} {M lk' hp' : List Nat} {pl' : List Int}
theorem Qc.back (v : Iv n K0 Mo d) (C : Qc d) (hmem : ∀ u, u ∈ hp' ↔ u ∈ d.hp ∨ ∃ l ∈ d.tr.drop fr, l / 2 = u) (hm : d.ma[m]? = some fr) : Qc (d.back m fr lk' hp' pl') := fun k c q hk hq h0 => by
  refine (hmem _).2 ?_
  by_cases e : q / 2 ∈ (d.tr.drop fr).map (· / 2)
  · obtain ⟨l, hl, e⟩ := List.mem_map.1 e
    exact .inr ⟨l, hl, e⟩
  · have h0 : wv (unset (d.tr.drop fr) d.wo) q = 0 := h0
    rw [v.T.wv_back, if_neg e] at h0
    exact .inl (C k c q hk hq h0)
theorem Qc.held (w : Wo n d.wo) (C : Qc d) (hz : z < 2 * n) (k : Int) : Qc (d.held z k) := fun i c q hi hq h0 => by
  have h0 : wv ((d.wo.set z 1).set (oth z) (-1)) q = 0 := h0
  rw [wv_held w hz] at h0
  by_cases e : q = oth z
  · rw [if_pos e] at h0; cases h0
  · rw [if_neg e] at h0
    by_cases e2 : q = z
    · rw [if_pos e2] at h0; cases h0
    · rw [if_neg e2] at h0; exact C i c q hi hq h0
theorem Qc.claimed (w : Wo n d.wo) (C : Qc d) (hz : z < 2 * n) (hM : ∀ q ∈ M, wv d.wo q = -1) (sp : Int) (q1 : Nat) (va : Value) (k : Int) : Qc ((d.claimed (z :: M) sp z q1 va).held z k) := fun i c q hi hq h0 => by
  have h0 : wv ((d.wo.set z 1).set (oth z) (-1)) q = 0 := h0
  rw [wv_held w hz] at h0
  by_cases e : q = oth z
  · rw [if_pos e] at h0; cases h0
  · rw [if_neg e] at h0
    by_cases e2 : q = z
    · rw [if_pos e2] at h0; cases h0
    · rw [if_neg e2] at h0
      rcases snoc_cases (show (d.cls ++ [(⟨z :: M, sp, 2⟩ : Cl)])[i]? = some c from hi) with ⟨_, hi⟩ | ⟨_, rfl⟩
      · exact C i c q hi hq h0
      · have := hM q ((List.mem_cons.1 hq).resolve_left e2)
        rw [this] at h0; cases h0
theorem Qc.same {d' : Sd} (C : Qc d) (s : Same d d') (h : ∀ u, u ∈ d'.hp ↔ u ∈ d.hp) : Qc d' := fun k c q hk hq h0 => by
  rw [s.cls] at hk; rw [s.wo] at h0
  exact (h _).2 (C k c q hk hq h0)
theorem dpn_held (h : ∀ v ∈ d.dp, v ≤ n) (hm : d.ma.length ≤ n) (z : Nat) : ∀ v ∈ d.dp.set (z / 2) d.ma.length, v ≤ n := fun v hv => by
  rcases List.mem_or_eq_of_mem_set hv with h1 | rfl
  · exact h v h1
  · exact hm
/-- What a turn finds at its middle. -/
structure Mid (n : Nat) (K0 : Nat → Prop) (Mo : (Nat → Bool) → Prop) (d : Sd) (z : Nat) (M : List Nat) : Prop where
  I : Iv n K0 Mo d
  ex : ∃ gone, Pr d (fun _ x => x = gone) ∧ (∃ j, d.tr[j]? = some (oth gone) ∧ j + 1 = d.nx ∧ ∀ m ∈ d.ma, m ≤ j)
  two : ∀ m ∈ d.ma, m + 2 ≤ d.tr.length
  l : Lsn n K0 Mo d z M
  Q : QOk n d.hp d.pl
  C : Qc d
  lk : Likes n d.lk
  gq : 2 * n ≤ d.gq
  se : ∀ u, d.se.getD u false = false
  nu : d.nu = []
  dpn : ∀ v ∈ d.dp, v ≤ n
theorem Mid.back (h : Mid n K0 Mo d z M) (hm : d.ma[m]? = some fr) : Pr (d.back m fr lk' hp' pl') (fun _ _ => False) := by
  obtain ⟨g, a, b⟩ := h.ex
  exact a.back_ex h.I b hm _ _ _
theorem Mid.unit (h : Mid n K0 Mo d z []) (hm : d.ma[0]? = some fr) (hl : lk'.length = n) (hq : QOk n hp' pl') (hlk : Likes n lk') (hmem : ∀ u, u ∈ hp' ↔ u ∈ d.hp ∨ ∃ l ∈ d.tr.drop fr, l / 2 = u) : Ru n K0 Mo ((d.back 0 fr lk' hp' pl').held z (-1)) := by
  obtain ⟨a, b⟩ := unit_turn h.I h.l (h.back (lk' := lk') (hp' := hp') (pl' := pl') hm) hm hl
  have hz := (h.l.back (lk' := lk') (hp' := hp') (pl' := pl') h.I hm (fun q hq => by cases hq)).1.1
  have vb := h.I.back hm (lk' := lk') (hp' := hp') (pl' := pl') hl
  exact ⟨a, b, hq, (h.C.back h.I hmem hm).held vb.T.w hz _, hlk, h.gq, h.se, h.nu, dpn_held (d := d.back 0 fr lk' hp' pl') h.dpn vb.L.ma z⟩
theorem Mid.claim (h : Mid n K0 Mo d z M) (hm : d.ma[m]? = some fr) (hl : lk'.length = n) (hq : QOk n hp' pl') (hlk : Likes n lk') (hmem : ∀ u, u ∈ hp' ↔ u ∈ d.hp ∨ ∃ l ∈ d.tr.drop fr, l / 2 = u) {q1 : Nat} (h1 : M[0]? = some q1) (hq1 : dpt d.dp q1 = m) (hb : d.cls.length + 1 < 2147483648) (sp : Int) (va : Value) : Ru n K0 Mo (((d.back m fr lk' hp' pl').claimed (z :: M) sp z q1 va).held z (d.cls.length : Int)) := by
  obtain ⟨a, b⟩ := claim_turn h.I h.l (h.back (lk' := lk') (hp' := hp') (pl' := pl') hm) hm hl h1 hq1 hb sp va
  obtain ⟨⟨hz, _⟩, _, _, hM, _⟩ := h.l.back (lk' := lk') (hp' := hp') (pl' := pl') h.I hm (fun q hq => by rw [← hq1]; exact h.l.mx q1 h1 q hq)
  have vb := h.I.back hm (lk' := lk') (hp' := hp') (pl' := pl') hl
  exact ⟨a, b, hq, (h.C.back h.I hmem hm).claimed vb.T.w hz hM _ _ _ _, hlk, h.gq, h.se, h.nu, dpn_held (d := d.back m fr lk' hp' pl') h.dpn vb.L.ma z⟩
/-- The search starts over. -/
theorem Ru.over (h : Ru n K0 Mo d) (hm : d.ma[0]? = some fr) (hl : lk'.length = n) (hq : QOk n hp' pl') (hlk : Likes n lk') (hmem : ∀ u, u ∈ hp' ↔ u ∈ d.hp ∨ ∃ l ∈ d.tr.drop fr, l / 2 = u) : Ru n K0 Mo (d.back 0 fr lk' hp' pl') :=
  ⟨h.I.back hm hl, h.P.back h.I.T h.I.C hm _ _ _, hq, h.C.back h.I hmem hm, hlk, h.gq, h.se, h.nu, h.dpn⟩
theorem Ru.pace (h : Ru n K0 Mo d) (a b c e : Int) : Ru n K0 Mo { d with pc := a, pt := b, pu := c, le := e } := by
  have L := h.I.L
  have T := h.I.T
  exact ⟨⟨⟨L.nb, L.wo, L.dp, L.wy, L.lk, L.sc, L.se, L.co, L.tr, L.ma, L.nu⟩, ⟨T.w, T.tl, T.nd, T.one, T.k0, T.ma, T.mb, T.dp, T.nx, T.mx⟩, h.I.C, h.I.W, h.I.Y, h.I.S, h.I.hb⟩, h.P, h.Q, h.C, h.lk, h.gq, h.se, h.nu, h.dpn⟩
/-- From the clash to the middle. -/
theorem mid_of (v : Iv n K0 Mo d) {k : Nat} {c : Cl} {gone : Nat} (cf : Cf n d k c gone) (C : Qc d) {r : Nt} {x i : Nat} {tl : List Nat} (l : Les n Mo d r x i tl) (pm : M.Perm (kp (d.noted r) tl)) (mx : ∀ q1, M[0]? = some q1 → ∀ q ∈ M, dpt d.dp q ≤ dpt d.dp q1) {d5 : Sd} (s : Same d d5) (L : Len n d5) (Q : QOk n d5.hp d5.pl) (hh : ∀ u, u ∈ d5.hp ↔ u ∈ d.hp) (hl : Likes n d5.lk) (hg : 2 * n ≤ d5.gq) (hse : ∀ u, d5.se[u]? = some true → r.se[u]? = some true ∧ u ∉ r.nu) (hnu : d5.nu = []) (hdp : ∀ v ∈ d.dp, v ≤ n) : Mid n K0 Mo d5 (oth x) M := by
  obtain ⟨e1, e2, e3, e4, e5, e6, e7, e8⟩ := id s
  refine ⟨v.same s L, ⟨gone, cf.pr.same s, ?_⟩, ?_, (l.lsn v pm mx).same s, Q, C.same s hh, hl, hg, fun u => ?_, hnu, by rw [e7]; exact hdp⟩
  · rw [e4, e5, e6]; exact cf.pos
  · rw [e4, e5]; exact cf.two v
  · cases hu : d5.se.getD u false with
    | false => rfl
    | true =>
      exfalso
      have h1 : d5.se[u]? = some true := by
        rw [List.getD_eq_getElem?_getD] at hu
        cases e : d5.se[u]? with
        | none => rw [e] at hu; cases hu
        | some b => rw [e] at hu; rw [show b = true from hu]
      obtain ⟨a, b⟩ := hse u h1
      exact b ((l.nu u).2 (by rw [List.getD_eq_getElem?_getD, a]; rfl))
end
end Go.Proofs.YtpmdnbdmocdngaaGreat

namespace Go.Proofs.YtpmdnbdmocdngaaGreat
open Go.ChangeShapes Go.WideShapes Go.ChangeAt Go.RowKit
set_option linter.unusedVariables false
set_option linter.unusedSimpArgs false

section
variable {B : Nat} {τ : Nat → Nat} {w : World} {p n : Nat} {d : Sd}
theorem start_none (h : Sr B τ w p n d) (L : Len n d) (hm : d.ma = []) (hle : d.le ≤ d.mo) :
    Calls Tryz.prog 101 #[ptr p] w fun e w' => e = .returned (.tuple #[]) ∧ Below w.heap.size w w' := by
  have CB := Lib.hid (show Calls _ _ #[ptr p, .int .i64 0] w _ from back_none h L (m := 0) (by rw [hm]; rfl))
  have f20 := h.get_le
  have f21 := h.get_mo
  have zp := h.plt
  have hno : ¬ d.mo < d.le := by omega
  clear h L hm
  go_enter Tryz.func101, Tryz.ntmps101
  go_wp2_with fail
  (with_reducible refine CB.out.mono ?_)
  rintro e w1 ⟨rfl, rfl⟩
  go_wp2_with fail
  go_quiet (fail)
  go_wp2_with fail
  go_end0
  exact ⟨rfl, Below.draws (Below.refl _ _) _⟩
theorem start_back (h : Sr B τ w p n d) (L : Len n d) (hq : QOk n d.hp d.pl) (hlk : Likes n d.lk) (htr : ∀ l ∈ d.tr, l < 2 * n) {fr : Nat} (hm : d.ma[0]? = some fr) (hf : fr < d.tr.length) (hle : d.le ≤ d.mo) :
    Calls Tryz.prog 101 #[ptr p] w fun e w' => e = .returned (.tuple #[]) ∧ TbPost B τ w p n d 0 fr w' := by
  have CB := Lib.hid (show Calls _ _ #[ptr p, .int .i64 0] w _ from back_any h L hq hlk htr hm hf)
  have hno : ¬ d.mo < d.le := by omega
  clear h L hq hlk htr hm
  go_enter Tryz.func101, Tryz.ntmps101
  go_wp2_with fail
  (with_reducible refine CB.out.mono ?_)
  rintro e w1 ⟨rfl, τ1, lk1, hp1, pl1, s1, t1, q1, l1, n1, m1⟩
  have f20 : w1.cell? ⟨p, 20, none⟩ = some (.int .i64 d.le) := s1.get_le
  have f21 : w1.cell? ⟨p, 21, none⟩ = some (.int .i64 d.mo) := s1.get_mo
  have zp := s1.plt
  have HE := Lib.hid (fun (W : World) (h0 : W.heap = w1.heap) (h1 : W.os = w1.os) (h2 : W.tape = w1.tape) (h3 : W.output = w1.output) => show TbPost B τ w p n d 0 fr W from ⟨τ1, lk1, hp1, pl1, s1.alike h0 h1 h2 h3, t1.alike h0 h1 h2 h3, q1, l1, n1, m1⟩)
  clear s1 t1 q1 l1 n1 m1 CB
  go_wp2_with fail
  go_quiet (fail)
  go_wp2_with fail
  go_end0
  exact ⟨rfl, HE.out _ rfl rfl rfl rfl⟩
end
end Go.Proofs.YtpmdnbdmocdngaaGreat

namespace Go.Proofs.YtpmdnbdmocdngaaGreat
open Go.ChangeShapes Go.WideShapes Go.ChangeAt Go.RowKit
set_option linter.unusedVariables false
set_option linter.unusedSimpArgs false

section
variable {B : Nat} {τ : Nat → Nat} {w wr : World} {p n g cap z j : Nat} {d : Sd} {tl N : List Nat}
set_option maxHeartbeats 1600000 in
theorem ndlkeep_any (h : Sr B τ w p n d) (L : Len n d) {A : Option Addr} {c : Nat} (hc : ∀ (i q : Nat), tl[i]? = some q → ∃ a, A = some a ∧ w.cell? (a.add i) = some (.int .i32 (q : Int))) (hmx : tl.length ≤ 200000) (hls : ∀ l ∈ tl, NdOk n d l) (hany : tl.any (ndl d) = false) :
    Calls Tryz.prog 171 #[.slice A tl.length c, .func (.func 172) #[ptr p] #[]] w fun e w' => e = .returned (.slice A tl.length c) ∧ Below w.heap.size w w' := by
  have K := Lib.hid (ndlindex_any h L (cap := c) hc (by omega) hls)
  have HY := Lib.hid hany
  clear h L hc hls hany
  go_enter Tryz.func171, Tryz.ntmps171
  go_wp2_with fail
  (with_reducible refine K.out.mono ?_)
  rintro e w1 ⟨b1, ⟨rfl, hno⟩ | ⟨j0, q0, rfl, hj0, hn0, hno⟩⟩
  · have B1 := Lib.hid b1
    clear b1 hno K
    go_wp2_with fail
    go_ret
    exact ⟨rfl, B1.out⟩
  · exfalso
    have := (List.any_eq_false.1 HY.out) q0 (List.mem_of_getElem? hj0)
    exact this hn0
set_option maxHeartbeats 3200000 in
set_option maxRecDepth 4000 in
theorem ndldelete_any (h : Sr B τ w p n d) (L : Len n d) (hr : RowN τ 0 w 138 1 (.slice (some ⟨g, 0, none⟩) (tl.length + 1) cap) (tl.length + 1) (n32 (z :: tl))) (hmx : tl.length ≤ 200000) (hls : ∀ l ∈ tl, NdOk n d l) (hany : tl.any (ndl d) = true) :
    Calls Tryz.prog 171 #[.slice (some ⟨g, 1, none⟩) tl.length (cap - 1), .func (.func 172) #[ptr p] #[]] w (DfPost B τ w p n d g cap z tl) := by
  have hcap : tl.length + 1 ≤ cap ∧ cap ≤ 9223372036854775807 := by
    rcases hr.at with ⟨_, h1⟩ | ⟨g', cap', cur, h0, hb, h1, h2, h3, h4⟩
    · omega
    · injection h0 with _ _ h5; subst h5; exact ⟨h1, h2⟩
  have hc1 := hcap.1
  have hc2 := hcap.2
  have K := Lib.hid (ndlindex_any h L (A := some ⟨g, 1, none⟩) (cap := cap - 1) (ls := tl) (fun i q hq => ⟨_, rfl, by rw [Addr.add_lit]; exact hr.cell (by show (n32 (z :: tl))[1 + i]? = _; rw [Nat.add_comm]; simp [n32, hq])⟩) (by omega) hls)
  have HL := Lib.hid L
  have HLS := Lib.hid hls
  have HY := Lib.hid hany
  have R0 : Hid (∀ (w1 : World), Below w.heap.size w w1 → ∀ (j0 q0 : Nat), tl[j0]? = some q0 → ndl d q0 = true → (tl.take j0).any (ndl d) = false → DfR B τ w p n d g cap z tl (j0 + 1) tl w1 ∧ (kp d (tl.take (j0 + 1))).length = j0) := fun w1 b1 j0 q0 hj hn hno => by
    have e : kp d (tl.take (j0 + 1)) = tl.take j0 := by rw [kp_snoc hj, if_pos hn, List.append_nil, kp_none hno]
    have hj0 := (List.getElem?_eq_some_iff.1 hj).1
    have el : (tl.take j0).length = j0 := by rw [List.length_take]; omega
    exact ⟨⟨h.below b1, hr.stp (Stp.of_below τ b1), Stk.of_below b1, rfl, by rw [e, el], rfl⟩, by rw [e, el]⟩
  clear h L hr hls hany hcap
  go_enter Tryz.func171, Tryz.ntmps171
  go_wp2_with fail
  (with_reducible refine K.out.mono ?_)
  rintro e w1 ⟨b1, ⟨rfl, hno⟩ | ⟨j0, q0, rfl, hj0, hn0, hno⟩⟩
  · exfalso
    rw [HY.out] at hno; cases hno
  · obtain ⟨r1, ek⟩ := R0.out w1 b1 j0 q0 hj0 hn0 hno
    have R1 := Lib.hid r1
    have EK := Lib.hid ek
    have hjl := (List.getElem?_eq_some_iff.1 hj0).1
    have kn : ((j0 : Int) == -1) = false := beq_eq_false_iff_ne.2 (by omega)
    have kn2 : ¬ (j0 : Int) = -1 := by omega
    clear r1 ek b1 hj0 hn0 hno K R0
    go_wp2_with fail
    go_loopw [5, 6] (fun iv jv wr => ∃ (j i : Nat) (N : List Nat), j ≤ tl.length ∧ jv = .int .i64 j ∧ iv = .int .i64 i ∧ i < j ∧ Hid ((kp d (tl.take j)).length = i) ∧ Hid (DfR B τ w p n d g cap z tl j N wr)) (fun _ jv _ => tl.length - (intOf jv).toNat)
    case atStart => exact ⟨j0 + 1, j0, tl, by omega, by go_num, rfl, by omega, EK, R1⟩
    case round =>
      obtain ⟨j, i, N, hj, rfl, rfl, hij, EI, R⟩ := hrel
      clear R1 EK
      by_cases hlt : j < tl.length
      · obtain ⟨v, hv⟩ : ∃ v, tl[j]? = some v := ⟨_, List.getElem?_eq_getElem hlt⟩
        obtain ⟨hvn, zz, hz1, hz2⟩ := HLS.out v (List.mem_of_getElem? hv)
        have xj : wr.cell? ⟨g, 1 + j, none⟩ = some (.int .i32 (v : Int)) := R.out.row.cell (by show (n32 (z :: N))[1 + j]? = _; rw [Nat.add_comm]; simp [n32, R.out.get (Nat.le_refl _), hv])
        have CN := Lib.hid (needless_any R.out.R HL.out hvn hz1 hz2)
        have HV := Lib.hid hv
        have zg := lt_of_cell xj
        have b1 : (0 : Int) ≤ (j : Int) := by omega
        have b2 : (j : Int) < (tl.length : Int) := by omega
        have b3 : (i : Int) < (tl.length : Int) := by omega
        have b4 : (0 : Int) ≤ (i : Int) := by omega
        clear hv hz1 hz2 zz
        cases hn : ndl d v with
        | true =>
          have cl := CN.out
          rw [hn] at cl
          have HN := Lib.hid hn
          clear hn
          go_wp2_with (go_at_call 172; ((with_reducible refine cl.mono ?_); rintro e w2 ⟨rfl, hw2⟩; have HW := Lib.hid hw2; clear hw2))
          go_roundw
          case rel => exact ⟨j + 1, i, N, by omega, by go_num, rfl, by omega, by rw [kp_snoc HV.out, if_pos HN.out, List.append_nil]; exact EI.out, (R.out.below HW.out).skip HV.out HN.out⟩
          case measure => simp [intOf]; omega
        | false =>
          have cl := CN.out
          rw [hn] at cl
          have HN := Lib.hid hn
          have HP := Lib.hid (show ∀ W : World, Below wr.heap.size wr W → DfR B τ w p n d g cap z tl (j + 1) (N.set i v) (W.setCell ⟨g, 1 + i, none⟩ (.int .i32 (v : Int))) ∧ W.frozen? ⟨g, 1 + i, none⟩ = false ∧ ∃ u, W.cell? ⟨g, 1 + i, none⟩ = some u from fun W b => by
            have r := R.out.below b
            have r2 := r.put HV.out hn (by rw [EI.out]; omega)
            rw [EI.out] at r2
            obtain ⟨u, hu⟩ : ∃ u, N[i]? = some u := ⟨_, List.getElem?_eq_getElem (by rw [r.len]; omega)⟩
            refine ⟨r2, ?_, _, r.row.cell (u := .int .i32 (u : Int)) (by show (n32 (z :: N))[1 + i]? = _; rw [Nat.add_comm]; simp [n32, hu])⟩
            · rcases r.row.at with ⟨_, h1⟩ | ⟨g', cap', cur, h0, hb, _⟩
              · omega
              · injection h0 with h0 _ _; injection h0 with h0; injection h0 with h0; subst h0; exact hb.free _)
          clear hn
          go_wp2_with (go_at_call 172; ((with_reducible refine cl.mono ?_); rintro e w2 ⟨rfl, hw2⟩; have h3 := HP.out w2 hw2; have r5 := h3.2.1; obtain ⟨u5, c5⟩ := h3.2.2; have HW := Lib.hid h3.1; clear hw2 h3))
          go_roundw
          case rel => exact ⟨j + 1, i + 1, N.set i v, by omega, by go_num, by go_num, by omega, by rw [kp_snoc HV.out, if_neg (by rw [HN.out]; decide), List.length_append, EI.out]; rfl, HW⟩
          case measure => simp [intOf]; omega
      · obtain rfl : j = tl.length := by omega
        have ek : kp d tl = kp d (tl.take tl.length) := by rw [List.take_length]
        have eki : (kp d tl).length = i := by rw [ek]; exact EI.out
        have hfr : ∀ k, wr.frozen? ⟨g, k, none⟩ = false := by
          rcases R.out.row.at with ⟨_, h1⟩ | ⟨g', cap', cur, h0, hb, _⟩
          · omega
          · injection h0 with h0 _ _; injection h0 with h0; injection h0 with h0; subst h0; exact hb.free
        have hce : ∀ k, k < tl.length → (wr.cell? ⟨g, 1 + k, none⟩).isSome = true := fun k hk => by
          obtain ⟨u, hu⟩ : ∃ u, N[k]? = some u := ⟨_, List.getElem?_eq_getElem (by rw [R.out.len]; omega)⟩
          rw [R.out.row.cell (u := .int .i32 (u : Int)) (by show (n32 (z :: N))[1 + k]? = _; rw [Nat.add_comm]; simp [n32, hu])]; rfl
        have hcl : ∀ ty, (Builtin.clear_ #[123] ty #[.slice (some ⟨g, 1 + i, none⟩) (tl.length - i) (cap - 1 - i)]).run Tryz.prog wr = .ok (.tuple #[]) (wr.setCells g (1 + i) (List.replicate (tl.length - i) (.int .i32 0))) := fun ty => Lib.run_clear_slice wr _ 138 ty (.int .i32 0) Tryz.underlying123 (fun w => by rfl) rfl rfl g (1 + i) _ _ (by omega) (fun k hk => by rw [Nat.add_assoc]; exact hce _ (by omega)) (fun k hk => hfr _)
        have HE : Hid (DfPost B τ w p n d g cap z tl (.returned (.slice (some ⟨g, 1, none⟩) i (cap - 1))) (wr.setCells g (1 + i) (List.replicate (tl.length - i) (.int .i32 0)))) := by
          have hg : τ g = 0 := R.out.row.2 g rfl
          refine ⟨List.replicate (tl.length - i) 0, by rw [eki], by rw [List.length_append, eki, List.length_replicate]; omega, ?_, ?_, R.out.S.trans (Stk.cells _ _ _)⟩
          · obtain ⟨pcs, s⟩ := R.out.R
            exact ⟨pcs, s.step (step_cells hg _ _ _) (fun r hr e => by omega)⟩
          · have := R.out.row.stores (List.replicate (tl.length - i) (.int .i32 0)) (1 + i) _ _ (by rw [List.length_replicate]; omega)
            have hNl := R.out.len
            have hnl : (n32 (z :: N)).length = N.length + 1 := by simp [n32]
            rw [sets_eq _ _ _ (by rw [hnl, List.length_replicate]; omega)] at this
            have e : (n32 (z :: N)).take (1 + i) ++ List.replicate (tl.length - i) (Value.int .i32 0) ++ (n32 (z :: N)).drop (1 + i + (List.replicate (tl.length - i) (Value.int .i32 0)).length) = n32 (z :: (kp d tl ++ List.replicate (tl.length - i) 0)) := by
              rw [List.drop_eq_nil_of_le (by rw [hnl, List.length_replicate]; omega), List.append_nil]
              have htk := R.out.tk
              rw [EI.out, ← ek] at htk
              show (n32 (z :: N)).take (1 + i) ++ _ = _
              rw [show (n32 (z :: N)).take (1 + i) = n32 ((z :: N).take (1 + i)) from (List.map_take ..).symm, Nat.add_comm 1 i, List.take_succ_cons, htk]
              simp [n32]
            rw [e] at this
            exact this
        have b3 : (i : Int) ≤ (tl.length : Int) := by omega
        have b4 : (0 : Int) ≤ (i : Int) := by omega
        have b5 : ¬ cap - 1 = i := by omega
        have b6 : (tl.length : Int) ≤ ((cap - 1 : Nat) : Int) := by omega
        have b7 : (i : Int) ≤ ((cap - 1 : Nat) : Int) := by omega
        clear ek eki hfr hce R HY HLS
        go_wp2_with fail
        go_ret
        exact HE.out
end
end Go.Proofs.YtpmdnbdmocdngaaGreat
