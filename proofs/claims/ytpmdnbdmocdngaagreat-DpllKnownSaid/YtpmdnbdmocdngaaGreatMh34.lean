/-
  Parts of the proof, joined: DpllRn, DpllRm.
-/
import Derived.Test.YtpmdnbdmocdngaaGreatMh29

namespace Go.Proofs.YtpmdnbdmocdngaaGreat
open Go.RowKit
set_option linter.unusedVariables false
set_option linter.unusedSimpArgs false

/-- The lowest bit of a number. -/
def lob (t : Nat) : Nat := (bits .and .i64 (t : Int) (-(t : Int))).toNat
def lobB (t : Nat) : Bool := (List.range 13).any fun k => decide (bits .and .i64 (t : Int) (-(t : Int)) = ((2 ^ k : Nat) : Int)) && decide (2 ^ k ≤ t) && (List.range 13).all fun m => decide (t = 2 ^ m → k = m)
theorem lobs : ((List.range 65).all fun a => (List.range 64).all fun b => 64 * a + b == 0 || lobB (64 * a + b)) = true := by decide +kernel
theorem lob_spec {t : Nat} (h1 : 1 ≤ t) (h2 : t ≤ 4096) : ∃ k, bits .and .i64 (t : Int) (-(t : Int)) = ((2 ^ k : Nat) : Int) ∧ lob t = 2 ^ k ∧ 2 ^ k ≤ t ∧ ∀ m, m ≤ 12 → t = 2 ^ m → k = m := by
  have h := lobs
  rw [List.all_eq_true] at h
  have h := h (t / 64) (List.mem_range.2 (by omega))
  rw [List.all_eq_true] at h
  have h := h (t % 64) (List.mem_range.2 (by omega))
  rw [show 64 * (t / 64) + t % 64 = t by omega, Bool.or_eq_true] at h
  have h := h.resolve_left (by simp; omega)
  unfold lobB at h
  obtain ⟨k, hk, h⟩ := List.any_eq_true.1 h
  rw [Bool.and_eq_true, Bool.and_eq_true] at h
  obtain ⟨⟨a, b⟩, c⟩ := h
  have a := of_decide_eq_true a
  refine ⟨k, a, by unfold lob; rw [a]; exact Int.toNat_natCast _, of_decide_eq_true b, fun m hm he => ?_⟩
  rw [List.all_eq_true] at c
  exact of_decide_eq_true (c m (List.mem_range.2 (by omega))) he
def tab : Nat → Nat
  | 0 => 0
  | t + 1 => tab t + (2 * lob t - 1)
def tabs (a : Nat) : Nat → Nat
  | 0 => 2 * lob a - 1
  | k + 1 => tabs a k + tabs (a + 2 ^ k) k
theorem tab_add : ∀ (k a : Nat), tab (a + 2 ^ k) = tab a + tabs a k
  | 0, a => rfl
  | k + 1, a => by
    rw [show a + 2 ^ (k + 1) = (a + 2 ^ k) + 2 ^ k by rw [Nat.pow_succ]; omega, tab_add k (a + 2 ^ k), tab_add k a, Nat.add_assoc]; rfl
theorem tab_mono (a : Nat) : ∀ t, tab a ≤ tab (a + t)
  | 0 => Nat.le_refl _
  | t + 1 => Nat.le_trans (tab_mono a t) (Nat.le_add_right _ _)
theorem tab_le {a b : Nat} (h : a ≤ b) : tab a ≤ tab b := by obtain ⟨t, rfl⟩ := Nat.exists_eq_add_of_le h; exact tab_mono a t
theorem tab_top : tab 4096 ≤ 50000 := by
  have := tab_add 12 0
  rw [Nat.zero_add] at this
  rw [show (4096 : Nat) = 2 ^ 12 from rfl, this]
  have e : tabs 0 12 ≤ 50000 := by decide +kernel
  exact (show tab 0 + _ ≤ _ by rw [show tab 0 = 0 from rfl]; omega)
theorem tab_ten : tab 4 ≤ 5 := by
  have := tab_add 2 0
  rw [Nat.zero_add] at this
  rw [show (4 : Nat) = 2 ^ 2 from rfl, this]
  have e : tabs 0 2 ≤ 5 := by decide +kernel
  exact (show tab 0 + _ ≤ _ by rw [show tab 0 = 0 from rfl]; omega)
/-- How far a search is: ct clashes there were. -/
structure Lub (n f0 ct : Nat) (d : Sd) : Prop where
  pc0 : 0 ≤ d.pc
  pc1 : d.pc < 128 * d.pu
  vb : d.pc ≤ (vl n d.ma d.tr.length : Int)
  lu : ∃ t T j : Nat, d.pt = (t : Int) ∧ d.pu = ((2 ^ j : Nat) : Int) ∧ 1 ≤ t ∧ t ≤ 2 ^ (n - 8) ∧ 2 ^ j ≤ lob t ∧ T + 1 ≤ tab t + 2 ^ j ∧ (ct : Int) = 128 * T + d.pc
  le0 : 0 ≤ d.le
  le : d.le ≤ ((f0 + ct : Nat) : Int)
  mo : 2000 ≤ d.mo ∧ d.mo ≤ ((2000 + 500 * ct : Nat) : Int)
  cl : d.cls.length ≤ f0 + ct
section
variable {n f0 ct : Nat} {d d' : Sd} {K0 : Nat → Prop} {Mo : (Nat → Bool) → Prop}
theorem pow_top (hn : n ≤ 20) : 2 ^ (n - 8) ≤ 4096 := Nat.le_trans (Nat.pow_le_pow_right (by decide) (show n - 8 ≤ 12 by omega)) (by decide)
theorem vl_half (n : Nat) (ma : List Nat) {len : Nat} (h : len ≤ n) : vl n ma len ≤ 2 ^ n / 2 := by
  by_cases h0 : n = 0
  · subst h0
    obtain rfl : len = 0 := by omega
    exact Nat.zero_le _
  · exact Nat.le_of_lt (vl_cap n (by omega) ma h)
theorem Lub.parts (h : Lub n f0 ct d) (hn : n ≤ 20) (htr : d.tr.length ≤ n) : ∃ t T j : Nat, d.pt = (t : Int) ∧ d.pu = ((2 ^ j : Nat) : Int) ∧ 1 ≤ t ∧ t ≤ 2 ^ (n - 8) ∧ 2 ^ j ≤ t ∧ T + 1 ≤ tab (2 ^ (n - 8)) + 2 ^ (n - 8) ∧ (ct : Int) = 128 * T + d.pc ∧ d.pc ≤ ((2 ^ n / 2 : Nat) : Int) := by
  obtain ⟨t, T, j, a1, a2, a3, a4, a5, a6, a7⟩ := h.lu
  have p := pow_top hn
  obtain ⟨k, _, k2, k3, _⟩ := lob_spec a3 (by omega)
  have m := tab_le a4
  have v := h.vb
  have u := vl_half n d.ma htr
  exact ⟨t, T, j, a1, a2, a3, a4, by omega, by omega, a7, by omega⟩
theorem Lub.top (h : Lub n f0 ct d) (hn : n ≤ 20) (htr : d.tr.length ≤ n) : ct ≤ 8000000 ∧ d.pt ≤ 4096 ∧ d.pu ≤ 4096 ∧ 1 ≤ d.pu ∧ 1 ≤ d.pt ∧ d.pc ≤ 524288 := by
  obtain ⟨t, T, j, a1, a2, a3, a4, a5, a6, a7, a8⟩ := h.parts hn htr
  have p := pow_top hn
  have m := Nat.le_trans (tab_le p) tab_top
  have q : 2 ^ n ≤ 2 ^ 20 := Nat.pow_le_pow_right (by decide) hn
  have q2 : (2 : Nat) ^ 20 = 1048576 := rfl
  have j1 := Nat.pos_of_ne_zero (show 2 ^ j ≠ 0 from Nat.pos_iff_ne_zero.1 (Nat.two_pow_pos j))
  refine ⟨by omega, by omega, by omega, by omega, by omega, by omega⟩
theorem Lub.ten (h : Lub n f0 ct d) (hn : n ≤ 10) (htr : d.tr.length ≤ n) : ct ≤ 1536 := by
  obtain ⟨t, T, j, a1, a2, a3, a4, a5, a6, a7, a8⟩ := h.parts (by omega) htr
  have p : 2 ^ (n - 8) ≤ 4 := Nat.le_trans (Nat.pow_le_pow_right (by decide) (show n - 8 ≤ 2 by omega)) (by decide)
  have m := Nat.le_trans (tab_le p) tab_ten
  have q : 2 ^ n ≤ 2 ^ 10 := Nat.pow_le_pow_right (by decide) hn
  have q2 : (2 : Nat) ^ 10 = 1024 := rfl
  omega
theorem Lub.pce (h : Lub n f0 ct d) (hn : n ≤ 20) (htr : d.tr.length ≤ n) (hf : f0 ≤ 100000) : Pce d := by
  obtain ⟨a, b, c, e, f, g⟩ := h.top hn htr
  have := h.pc0
  have := h.le0
  have := h.le
  exact ⟨by omega, by omega, by omega, by omega, by omega, by omega, by omega, by omega⟩
theorem Lub.turn (h : Lub n f0 ct d) (hn : n ≤ 20) (r : TuRel n d d') : Lub n f0 (ct + 1) d' := by
  have hle := h.le
  have hmo := h.mo
  have hcl := h.cl
  have r1 := r.le
  have r2 := r.mo
  have r3 := r.cls.1
  have pc1 := h.pc1
  obtain ⟨t, T, j, a1, a2, a3, a4, a5, a6, a7⟩ := h.lu
  have base : 0 ≤ d'.le ∧ d'.le ≤ ((f0 + (ct + 1) : Nat) : Int) ∧ (2000 ≤ d'.mo ∧ d'.mo ≤ ((2000 + 500 * (ct + 1) : Nat) : Int)) ∧ d'.cls.length ≤ f0 + (ct + 1) := by
    refine ⟨r.le0, ?_, ⟨by omega, by omega⟩, by omega⟩
    rcases r1 with r1 | r1 <;> omega
  obtain ⟨b1, b2, b3, b4⟩ := base
  have p := pow_top hn
  have h0 := h.pc0
  have hv := h.vb
  rcases r.go with ⟨g1, g2, g3, g4, _, g5⟩ | ⟨g1, g2, g3, g4, g5⟩
  · refine ⟨by omega, by rw [g2, g4]; exact g1, by omega, ⟨t, T, j, by rw [g3, a1], by rw [g4, a2], a3, a4, a5, a6, by omega⟩, b1, b2, b3, b4⟩
  · obtain ⟨k, k1, k2, k3, k4⟩ := lob_spec a3 (by omega)
    have j1 := Nat.pos_of_ne_zero (show 2 ^ j ≠ 0 from Nat.pos_iff_ne_zero.1 (Nat.two_pow_pos j))
    rw [a1, a2] at g4
    rcases g4 with ⟨e1, e2, e3⟩ | ⟨e1, e2, e3⟩
    · rw [k1] at e1
      have ekj : 2 ^ k = 2 ^ j := by omega
      have tlt : t < 2 ^ (n - 8) := by
        refine Nat.lt_of_le_of_ne a4 fun e => ?_
        have := k4 (n - 8) (by omega) e
        subst this
        have g1 : 128 * 2 ^ (n - 8) ≤ 2 ^ n / 2 - 1 := by rw [a2] at g1; omega
        by_cases h8 : 8 ≤ n
        · have e8 : 2 ^ n = 2 ^ (n - 8) * 256 := by rw [show (256 : Nat) = 2 ^ 8 from rfl, ← Nat.pow_add]; congr 1; omega
          omega
        · have : 2 ^ n ≤ 2 ^ 7 := Nat.pow_le_pow_right (by decide) (by omega)
          have : (2 : Nat) ^ 7 = 128 := rfl
          have := Nat.two_pow_pos (n - 8)
          omega
      obtain ⟨k', _, m2, _, _⟩ := lob_spec (t := t + 1) (by omega) (by omega)
      refine ⟨by omega, by rw [g3, e3]; decide, by omega, ⟨t + 1, T + 2 ^ j, 0, by rw [e2]; omega, by rw [e3]; rfl, by omega, by omega, by rw [m2]; exact Nat.pow_le_pow_right (by decide) (Nat.zero_le _), ?_, by omega⟩, b1, b2, b3, b4⟩
      show T + 2 ^ j + 1 ≤ tab t + (2 * lob t - 1) + 2 ^ 0
      rw [k2, ekj]
      omega
    · rw [k1] at e1
      have hjk : 2 ^ (j + 1) ≤ 2 ^ k := by
        refine Nat.pow_le_pow_right (by decide) ?_
        have : 2 ^ j < 2 ^ k := by omega
        exact (Nat.pow_lt_pow_iff_right (by decide)).1 this
      refine ⟨by omega, by rw [g3, e3]; omega, by omega, ⟨t, T + 2 ^ j, j + 1, by rw [e2], by rw [e3, Nat.pow_succ]; omega, a3, a4, by rw [k2]; exact hjk, ?_, by omega⟩, b1, b2, b3, b4⟩
      rw [Nat.pow_succ]; omega
theorem Lub.follow (h : Lub n f0 ct d) (r : Fol d d') : Lub n f0 ct d' := by
  have hl := r.cp.len
  obtain ⟨ext, ht⟩ := r.tr
  obtain ⟨_, _, _, _, _, _, _, _, _, rfl⟩ := r.same
  have ht : _ = d.tr ++ ext := ht
  subst ht
  refine ⟨h.pc0, h.pc1, ?_, h.lu, h.le0, h.le, h.mo, Nat.le_trans (Nat.le_of_eq hl) h.cl⟩
  have := h.vb
  have m := vl_mono n d.ma d.tr.length ext.length
  show d.pc ≤ (vl n d.ma (d.tr ++ ext).length : Int)
  rw [List.length_append]; omega
theorem Lub.decided (h : Lub n f0 ct d) (q : Nat) : Lub n f0 ct (d.decided q) := by
  refine ⟨h.pc0, h.pc1, ?_, h.lu, h.le0, h.le, h.mo, h.cl⟩
  have hv := h.vb
  show d.pc ≤ (vl n (d.ma ++ [d.tr.length]) (d.tr ++ [q]).length : Int)
  rw [List.length_append]
  have e : vl n (d.ma ++ [d.tr.length]) (d.tr.length + 1) = vl n (d.ma ++ [d.tr.length]) d.tr.length := by
    show _ + (if d.tr.length ∈ d.ma ++ [d.tr.length] then 0 else _) = _
    rw [if_pos (by simp)]; rfl
  have e2 : vl n (d.ma ++ [d.tr.length]) d.tr.length = vl n d.ma d.tr.length := vl_same n _ fun j hj => by simp; omega
  rw [show [q].length = 1 from rfl, e, e2]; exact hv
end
end Go.Proofs.YtpmdnbdmocdngaaGreat

namespace Go.Proofs.YtpmdnbdmocdngaaGreat
open Go.RowKit
set_option linter.unusedVariables false
set_option linter.unusedSimpArgs false

section
variable {n f0 ct : Nat} {d d' d0 : Sd} {K0 : Nat → Prop} {Mo : (Nat → Bool) → Prop}
/-- What is open was open. -/
theorem Fol.open_ (f : Fol d d') (t : Tl n K0 d) (t' : Tl n K0 d') {q : Nat} (hq : q < 2 * n) (h : wv d'.wo q = 0) : wv d.wo q = 0 := by
  obtain ⟨ext, he⟩ := f.tr
  have key : ∀ x, x < 2 * n → wv d.wo x = 1 → wv d'.wo x = 1 := fun x hx h1 => by
    refine (t'.one x hx).2 ?_
    rcases (t.one x hx).1 h1 with h1 | h1
    · exact .inl (by rw [he]; exact List.mem_append_left _ h1)
    · exact .inr h1
  rcases t.w.rng q with e | e | e
  · have e2 := key (oth q) (oth_lt hq) (by rw [t.w.opp q hq, e]; rfl)
    rw [t'.w.opp q hq, h] at e2; cases e2
  · exact e
  · rw [key q hq e] at h; cases h
theorem Ru.fol (h : Ru n K0 Mo d) (f : Fol d d') (v : Iv n K0 Mo d') : Qc d' ∧ QOk n d'.hp d'.pl ∧ Likes n d'.lk ∧ (∀ u, d'.se.getD u false = false) ∧ d'.nu = [] ∧ ∀ x ∈ d'.dp, x ≤ n := by
  have ho := fun q hq h0 => f.open_ (q := q) h.I.T v.T hq h0
  have hd := f.dpn n h.dpn h.I.L.ma
  have hcp := f.cp
  have hC : Qc d' := fun k c q hk hq h0 => by
    obtain ⟨c0, hk0, hp0⟩ := hcp.back hk
    have hq0 := hp0.mem_iff.1 hq
    have := h.C k c0 q hk0 hq0 (ho q (h.I.C.lt k c0 hk0 q hq0).1 h0)
    obtain ⟨_, _, _, _, _, _, _, _, _, rfl⟩ := f.same
    exact this
  have hh : d'.hp = d.hp ∧ d'.pl = d.pl ∧ d'.lk = d.lk ∧ d'.se = d.se ∧ d'.nu = d.nu := by
    obtain ⟨_, _, _, _, _, _, _, _, _, rfl⟩ := f.same
    exact ⟨rfl, rfl, rfl, rfl, rfl⟩
  obtain ⟨e1, e2, e3, e4, e5⟩ := hh
  exact ⟨hC, by rw [e1, e2]; exact h.Q, by rw [e3]; exact h.lk, by rw [e4]; exact h.se, by rw [e5]; exact h.nu, hd⟩
theorem Ru.follow (h : Ru n K0 Mo d) (f : Fol d d') (v : Iv n K0 Mo d') (p : Pr d' (fun _ _ => False)) (hg : 2 * n ≤ d'.gq) : Ru n K0 Mo d' := by
  obtain ⟨a, b, c, e, g, i⟩ := h.fol f v
  exact ⟨v, p, b, a, c, hg, e, g, i⟩
theorem Tl.notK (t : Tl n K0 d) {q : Nat} (hq : q < 2 * n) (h0 : wv d.wo q = 0) : ¬ K0 q ∧ ¬ K0 (oth q) := by
  refine ⟨fun k => ?_, fun k => ?_⟩
  · rw [(t.one q hq).2 (.inr k)] at h0; cases h0
  · have := (t.one (oth q) (oth_lt hq)).2 (.inr k)
    rw [t.w.opp q hq, h0] at this; cases this
theorem Tl.ma_lt (t : Tl n K0 d) {q : Nat} (hq : q < 2 * n) (h0 : wv d.wo q = 0) : d.ma.length < n := by
  have h1 := t.lt hq h0
  have h2 := nodup_le d.tr.length d.ma (t.ma.imp fun h e => by omega) t.mb
  omega
/-- A number that waits is decided. -/
theorem Ru.decide (h : Ru n K0 Mo d) (hx : d.nx = d.tr.length) {hp' : List Nat} {pl' : List Int} (hq : QOk n hp' pl') {u q : Nat} (hqn : q < 2 * n) (hu : q / 2 = u) (h0 : wv d.wo q = 0) (hm : ∀ u' ∈ d.hp, d.wo[2 * u']? = some 0 → u' = u ∨ u' ∈ hp') : Ru n K0 Mo (({ d with hp := hp', pl := pl' } : Sd).decided q) := by
  have v := h.I.queue hp' pl'
  have L := v.L
  have hk := v.T.notK hqn h0
  have hml := v.T.ma_lt hqn h0
  have htl := v.T.lt hqn h0
  refine ⟨⟨⟨L.nb, ?_, ?_, ?_, L.lk, L.sc, L.se, L.co, ?_, ?_, L.nu⟩, v.T.decided hx L.dp hqn h0 hk, v.C, v.W, Wy.decided v.Y v.T L.wy hqn h0, Sem.decided v.S, v.hb⟩, Pr.decided (d := { d with hp := hp', pl := pl' }) h.P v.T hqn h0, hq, ?_, h.lk, h.gq, h.se, h.nu, ?_⟩
  · show ((d.wo.set q 1).set (oth q) (-1)).length = _
    rw [List.length_set, List.length_set]; exact L.wo
  · show (d.dp.set _ _).length = _
    rw [List.length_set]; exact L.dp
  · show (d.wy.set _ _).length = _
    rw [List.length_set]; exact L.wy
  · show (d.tr ++ [q]).length ≤ n
    rw [List.length_append]; exact htl
  · show (d.ma ++ [d.tr.length]).length ≤ n
    rw [List.length_append]; exact hml
  · intro k c x hk2 hx2 hx0
    have hx0 : wv ((d.wo.set q 1).set (oth q) (-1)) x = 0 := hx0
    rw [wv_held h.I.T.w hqn] at hx0
    by_cases e1 : x = oth q
    · rw [if_pos e1] at hx0; cases hx0
    · rw [if_neg e1] at hx0
      by_cases e2 : x = q
      · rw [if_pos e2] at hx0; cases hx0
      · rw [if_neg e2] at hx0
        have hxn := (h.I.C.lt k c hk2 x hx2).1
        have hw : d.wo[2 * (x / 2)]? = some 0 := by
          rw [wv_at (by rw [h.I.L.wo]; omega)]
          congr 1
          by_cases hpar : x % 2 = 0
          · rw [show 2 * (x / 2) = x by omega]; exact hx0
          · rw [show 2 * (x / 2) = oth x by unfold oth; rw [if_neg hpar]; omega, h.I.T.w.opp x hxn, hx0]; rfl
        rcases hm (x / 2) (h.C k c x hk2 hx2 hx0) hw with e | e
        · exfalso
          rcases half_eq (q := q) (r := x) (by omega) with e3 | e3
          · exact e2 e3
          · exact e1 e3
        · exact e
  · exact dpn_held (d := { d with ma := d.ma ++ [d.tr.length] }) h.dpn (by show (d.ma ++ [d.tr.length]).length ≤ n; rw [List.length_append]; exact hml) q
/-- Where nothing waits that is open, each claim holds. -/
theorem Ru.sat (h : Ru n K0 Mo d) (hx : d.nx = d.tr.length) (hq : ∀ u ∈ d.hp, d.wo[2 * u]? ≠ some 0) : ∀ c ∈ d.cls, ∃ q ∈ c.ls, wv d.wo q = 1 := by
  intro c hc
  obtain ⟨k, hk⟩ := List.getElem?_of_mem hc
  have hl := h.I.C.len k c hk
  obtain ⟨x, hx0⟩ : ∃ x, c.ls[0]? = some x := ⟨_, List.getElem?_eq_getElem (by omega)⟩
  have hxm := List.mem_of_getElem? hx0
  obtain ⟨hxn, _, hk2⟩ := h.I.C.lt k c hk x hxm
  rcases h.I.T.w.rng x with e | e | e
  · have e2 : wv d.wo (oth x) = 1 := by rw [h.I.T.w.opp x hxn, e]; rfl
    rcases (h.I.T.one _ (oth_lt hxn)).1 e2 with e3 | e3
    · obtain ⟨j, hj⟩ := List.getElem?_of_mem e3
      have := (List.getElem?_eq_some_iff.1 hj).1
      rcases h.P k c 0 x hk (by decide) hx0 ⟨j, by omega, hj⟩ with h1 | ⟨y, hy, h1, _⟩
      · exact absurd h1 id
      · exact ⟨y, hy, h1⟩
    · exact absurd e3 hk2
  · exfalso
    have hw : d.wo[2 * (x / 2)]? = some 0 := by
      rw [wv_at (by rw [h.I.L.wo]; omega)]
      congr 1
      by_cases hpar : x % 2 = 0
      · rw [show 2 * (x / 2) = x by omega]; exact e
      · rw [show 2 * (x / 2) = oth x by unfold oth; rw [if_neg hpar]; omega, h.I.T.w.opp x hxn, e]; rfl
    exact hq (x / 2) (h.C k c x hk hxm e) hw
  · exact ⟨x, hxm, e⟩
/-- A clash without a decision: there are no truths. -/
theorem Cf.unsat (v : Iv n K0 Mo d) {k : Nat} {c : Cl} {gone : Nat} (cf : Cf n d k c gone) (hm : d.ma = []) : ∀ m, ¬ Mo m := by
  intro m hmo
  obtain ⟨a, b⟩ := v.S m hmo
  obtain ⟨q, hq, ht⟩ := a k c cf.at_
  obtain ⟨hqn, _, hk⟩ := v.C.lt k c cf.at_ q hq
  have e : wv d.wo (oth q) = 1 := by rw [v.T.w.opp q hqn, cf.all q hq]; rfl
  rcases (v.T.one _ (oth_lt hqn)).1 e with e3 | e3
  · obtain ⟨j, hj⟩ := List.getElem?_of_mem e3
    have := b j (oth q) hj (by rw [hm]; rfl)
    rw [lt_oth, ht] at this; cases this
  · exact hk e3
/-- What holds at each round of run, D decisions and ct clashes in. -/
structure Rn (n : Nat) (K0 : Nat → Prop) (Mo : (Nat → Bool) → Prop) (d0 : Sd) (f0 D ct : Nat) (d : Sd) : Prop where
  ru : Ru n K0 Mo d
  lub : Lub n f0 ct d
  kp : Keeps d0.cls d.cls
  D : D ≤ d.ma.length + n * ct
  nil : d0.cls = [] ∧ d0.hp = [] → d.cls = [] ∧ d.hp = []
theorem Rn.few {D : Nat} (r : Rn n K0 Mo d0 f0 D ct d) (hn : n ≤ 20) : D ≤ 200000000 := by
  have h1 := (r.lub.top hn r.ru.I.L.tr).1
  have h2 := r.ru.I.L.ma
  have h3 := r.D
  have h4 : n * ct ≤ 20 * 8000000 := Nat.mul_le_mul hn h1
  omega
theorem Rn.follow {D : Nat} (r : Rn n K0 Mo d0 f0 D ct d) (f : Fol d d') (v : Iv n K0 Mo d') (p : Pr d' (fun _ _ => False)) (hg : 2 * n ≤ d'.gq) : Rn n K0 Mo d0 f0 D ct d' := by
  refine ⟨r.ru.follow f v p hg, r.lub.follow f, r.kp.trans f.cp.keeps, ?_, fun h => ?_⟩
  · have := r.D
    obtain ⟨_, _, _, _, _, _, _, _, _, rfl⟩ := f.same
    exact this
  · obtain ⟨a, b⟩ := r.nil h
    have := f.cp.len
    rw [a] at this
    refine ⟨List.eq_nil_of_length_eq_zero this, ?_⟩
    obtain ⟨_, _, _, _, _, _, _, _, _, rfl⟩ := f.same
    exact b
theorem Rn.decide {D : Nat} (r : Rn n K0 Mo d0 f0 D ct d) (hx : d.nx = d.tr.length) {hp' : List Nat} {pl' : List Int} (hq : QOk n hp' pl') {u q : Nat} (hqn : q < 2 * n) (hu : q / 2 = u) (hum : u ∈ d.hp) (h0 : wv d.wo q = 0) (hm : ∀ u' ∈ d.hp, d.wo[2 * u']? = some 0 → u' = u ∨ u' ∈ hp') : Rn n K0 Mo d0 f0 (D + 1) ct (({ d with hp := hp', pl := pl' } : Sd).decided q) := by
  refine ⟨r.ru.decide hx hq hqn hu h0 hm, ?_, r.kp, ?_, fun h => ?_⟩
  · have l := r.lub
    exact Lub.decided (d := { d with hp := hp', pl := pl' }) ⟨l.pc0, l.pc1, l.vb, l.lu, l.le0, l.le, l.mo, l.cl⟩ q
  · have := r.D
    show D + 1 ≤ (d.ma ++ [d.tr.length]).length + n * ct
    rw [List.length_append, List.length_singleton]; omega
  · obtain ⟨_, b⟩ := r.nil h
    rw [b] at hum; cases hum
theorem Rn.turn {D : Nat} (r : Rn n K0 Mo d0 f0 D ct d) (hn : n ≤ 20) {d1 : Sd} (f : Fol d d1) {k : Nat} {c : Cl} {gone : Nat} (cf : Cf n d1 k c gone) (ru' : Ru n K0 Mo d') (t : TuRel n d1 d') : Rn n K0 Mo d0 f0 D (ct + 1) d' := by
  refine ⟨ru', (r.lub.follow f).turn hn t, (r.kp.trans f.cp.keeps).trans t.cls.2, ?_, fun h => ?_⟩
  · have h1 := r.D
    have h2 := r.ru.I.L.ma
    rw [Nat.mul_succ]; omega
  · obtain ⟨a, _⟩ := r.nil h
    have := f.cp.len
    rw [a] at this
    have h1 := cf.at_
    rw [List.eq_nil_of_length_eq_zero this] at h1
    simp at h1
def RnPost (B : Nat) (τ : Nat → Nat) (w : World) (p n : Nat) (K0 : Nat → Prop) (Mo : (Nat → Bool) → Prop) (d0 : Sd) (b0 : Int) (e : Ending) (w' : World) : Prop :=
  ∃ τ' d, Sr B τ' w' p n d ∧ Stp τ τ' w w' ∧ Len n d ∧ Tl n K0 d ∧ ((e = .returned (.int .i64 1) ∧ Keeps d0.cls d.cls ∧ ∀ c ∈ d.cls, ∃ q ∈ c.ls, wv d.wo q = 1) ∨ (e = .returned (.int .i64 2) ∧ ∀ m, ¬ Mo m) ∨ (e = .returned (.int .i64 3) ∧ b0 ≠ 9223372036854775807 ∧ ¬ (d0.cls = [] ∧ d0.hp = [])))
end
end Go.Proofs.YtpmdnbdmocdngaaGreat
