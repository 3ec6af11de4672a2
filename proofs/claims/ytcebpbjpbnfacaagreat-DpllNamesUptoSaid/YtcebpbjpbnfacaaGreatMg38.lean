/-
  Parts of the proof, joined: DpllM, DpllSm, DpllRu, DpllSu.
-/
import Derived.Test.YtcebpbjpbnfacaaGreatMg37
import Derived.Test.YtcebpbjpbnfacaaGreatMg31
import Derived.Test.YtcebpbjpbnfacaaGreatMg34
import Derived.Test.YtcebpbjpbnfacaaGreatMg32
import Derived.Test.YtcebpbjpbnfacaaGreatMg10
import Derived.Deep.LoopGhost
import Derived.Test.YtcebpbjpbnfacaaGreatMg30

/-
  Solutions of formulas, as plain data: all rows of truths, those under which a formula holds and that go on from what is assigned; what follows takes none away; one number tried both ways. No program.
-/
namespace Go.Proofs.YtcebpbjpbnfacaaGreat
set_option linter.unusedVariables false
set_option linter.unusedSimpArgs false

/-! ### All rows of truths -/
def bitsOf (n x : Nat) : List Bool := (List.range n).map fun i => x.testBit i
def allB (n : Nat) : List (List Bool) := (List.range (2 ^ n)).map (bitsOf n)
theorem bits_len (n x : Nat) : (bitsOf n x).length = n := by simp [bitsOf]
theorem bits_at {n x i : Nat} (h : i < n) : (bitsOf n x)[i]? = some (x.testBit i) := by
  unfold bitsOf; rw [List.getElem?_map, List.getElem?_range h]; rfl
theorem bits_inj {n x y : Nat} (hx : x < 2 ^ n) (hy : y < 2 ^ n) (h : bitsOf n x = bitsOf n y) : x = y := by
  refine Nat.eq_of_testBit_eq fun i => ?_
  by_cases hi : i < n
  · have h1 := bits_at (x := x) hi
    rw [h, bits_at hi] at h1
    injection h1 with h1; exact h1.symm
  · rw [Nat.testBit_lt_two_pow (Nat.lt_of_lt_of_le hx (Nat.pow_le_pow_right (by decide) (by omega))), Nat.testBit_lt_two_pow (Nat.lt_of_lt_of_le hy (Nat.pow_le_pow_right (by decide) (by omega)))]
theorem allB_nodup (n : Nat) : (allB n).Nodup := by
  unfold allB
  exact List.pairwise_map.2 (List.Pairwise.imp_of_mem (fun hx hy hne e => hne (bits_inj (List.mem_range.1 hx) (List.mem_range.1 hy) e)) List.nodup_range)
theorem bits_all : ∀ {n : Nat} {bs : List Bool}, bs.length = n → ∃ x, x < 2 ^ n ∧ bitsOf n x = bs
  | 0, [], _ => ⟨0, by decide, rfl⟩
  | n + 1, b :: bs, h => by
    obtain ⟨x, hx, e⟩ := bits_all (n := n) (bs := bs) (by simpa using h)
    refine ⟨2 * x + b.toNat, by cases b <;> simp [Nat.pow_succ] <;> omega, ?_⟩
    refine List.ext_getElem? fun i => ?_
    by_cases hi : i < n + 1
    · rw [bits_at hi]
      cases i with
      | zero => cases b <;> simp [Nat.testBit_zero] <;> omega
      | succ i =>
        rw [Nat.testBit_succ, show (2 * x + b.toNat) / 2 = x by cases b <;> simp <;> omega, List.getElem?_cons_succ, ← e, bits_at (by omega)]
    · rw [List.getElem?_eq_none (by rw [bits_len]; omega), List.getElem?_eq_none (by simp at h ⊢; omega)]
theorem mem_allB {n : Nat} {bs : List Bool} : bs ∈ allB n ↔ bs.length = n := by
  unfold allB
  rw [List.mem_map]
  constructor
  · rintro ⟨x, _, rfl⟩; exact bits_len n x
  · intro h
    obtain ⟨x, hx, e⟩ := bits_all h
    exact ⟨x, List.mem_range.2 hx, e⟩
/-! ### Truths as numbers, and formulas under them -/
def uOf (bs : List Bool) : List Int := bs.map fun b => if b then 1 else -1
theorem u_len (bs : List Bool) : (uOf bs).length = bs.length := by simp [uOf]
theorem u_at {bs : List Bool} {i : Nat} {b : Bool} (h : bs[i]? = some b) : (uOf bs)[i]? = some (if b then 1 else -1) := by unfold uOf; rw [List.getElem?_map, h]; rfl
theorem u_tv {n : Nat} {bs : List Bool} (h : bs.length = n) : TV n (uOf bs) := by
  refine ⟨by rw [u_len, h], fun i x hx => ?_⟩
  unfold uOf at hx
  rw [List.getElem?_map] at hx
  obtain ⟨b, _, rfl⟩ := Option.map_eq_some_iff.1 hx
  cases b <;> simp
theorem holds_wo {n : Nat} {bs : List Bool} {l : Int} (hb : bs.length = n) (ok : LOk n l) (hn : n ≤ 65536) : holdsM bs l = true ↔ wo (uOf bs) l = 1 := by
  obtain ⟨i, hi, hl⟩ := ok.form
  obtain ⟨b, hbi⟩ : ∃ b, bs[i]? = some b := ⟨_, List.getElem?_eq_getElem (by omega)⟩
  rcases hl with rfl | rfl
  · have hnb : numb ((i : Int) + 1) = (i : Int) + 1 := numb_pos (by omega)
    rw [holds_one bs _ i b hnb (by rw [hbi]; rfl), decide_eq_true (by omega), wo_pos, u_at hbi]
    cases b <;> simp
  · have hnb : numb (-((i : Int) + 1)) = (i : Int) + 1 := by rw [numb_neg (by omega) (by omega)]; omega
    rw [holds_one bs _ i b hnb (by rw [hbi]; rfl), decide_eq_false (by omega), wo_neg, u_at hbi]
    cases b <;> simp
theorem eval_iff {n : Nat} {f : List (List Int)} {bs : List Bool} (hb : bs.length = n) (ok : FOk n f) (hn : n ≤ 65536) : evalM bs f = true ↔ ∀ c ∈ f, ∃ x ∈ c, wo (uOf bs) x = 1 := by
  unfold evalM evalC
  rw [List.all_eq_true]
  constructor
  · intro h c hc
    obtain ⟨x, hx, e⟩ := List.any_eq_true.1 (h c hc)
    exact ⟨x, hx, (holds_wo hb (ok c hc x hx) hn).1 e⟩
  · intro h c hc
    obtain ⟨x, hx, e⟩ := h c hc
    exact List.any_eq_true.2 ⟨x, hx, (holds_wo hb (ok c hc x hx) hn).2 e⟩
theorem eval_rests {n : Nat} {f : List (List Int)} {bs : List Bool} (hb : bs.length = n) (ok : FOk n f) (hn : n ≤ 65536) (h : evalM bs f = true) : Rest f (uOf bs) := fun c hc => .inl ((eval_iff hb ok hn).1 h c hc)
/-! ### Solutions that go on from what is assigned -/
def sols (n : Nat) (f : List (List Int)) (t : List Int) : List (List Bool) := (allB n).filter fun bs => evalM bs f && upB t (uOf bs)
theorem mem_sols {n : Nat} {f : List (List Int)} {t : List Int} {bs : List Bool} : bs ∈ sols n f t ↔ bs.length = n ∧ evalM bs f = true ∧ Up t (uOf bs) := by
  unfold sols
  rw [List.mem_filter, mem_allB, Bool.and_eq_true, up_b]
theorem sols_none {n : Nat} {f : List (List Int)} {m : List Int} (ok : FOk n f) (hn : n ≤ 65536) (h : Ans n f m none) : sols n f m = [] :=
  List.eq_nil_iff_forall_not_mem.2 fun bs hb => by
    obtain ⟨h1, h2, h3⟩ := mem_sols.1 hb
    exact h _ (u_tv h1) h3 (eval_rests h1 ok hn h2)
theorem sols_same {n : Nat} {f : List (List Int)} {m t : List Int} (ok : FOk n f) (hn : n ≤ 65536) (h : Ans n f m (some t)) : sols n f m = sols n f t := by
  unfold sols
  refine List.filter_congr fun bs hb => ?_
  have hl := mem_allB.1 hb
  cases he : evalM bs f with
  | false => rfl
  | true =>
    rw [Bool.true_and, Bool.true_and, Bool.eq_iff_iff, up_b, up_b]
    exact ⟨fun k => h.2.2.2 _ (u_tv hl) k (eval_rests hl ok hn he), fun k => h.2.1.trans k⟩
theorem sols_zeros {n : Nat} {f : List (List Int)} : sols n f (List.replicate n 0) = (allB n).filter (evalM · f) := by
  unfold sols
  refine List.filter_congr fun bs _ => ?_
  have : upB (List.replicate n 0) (uOf bs) = true := up_b.2 fun i x hx h0 => by
    rw [List.getElem?_replicate] at hx
    split at hx
    · injection hx with hx; exact absurd hx.symm h0
    · cases hx
  rw [this, Bool.and_true]
theorem filter_split {α : Type} (p q : α → Bool) : ∀ l : List α, (l.filter p).length = (l.filter fun x => p x && q x).length + (l.filter fun x => p x && !q x).length
  | [] => rfl
  | a :: l => by
    have ih := filter_split p q l
    simp only [List.filter_cons]
    cases p a <;> cases q a <;> simp <;> omega
/-- One number that is open, tried both ways. -/
theorem sols_both {n : Nat} {f : List (List Int)} {t : List Int} {l : Int} (ht : TV n t) (ok : LOk n l) (h0 : wo t l = 0) : (sols n f t).length = (sols n f (setL t l)).length + (sols n f (setL t (-l))).length := by
  have key : ∀ k : Int, LOk n k → wo t k = 0 → sols n f (setL t k) = (allB n).filter fun bs => (evalM bs f && upB t (uOf bs)) && decide (wo (uOf bs) k = 1) := fun k okk hk => by
    unfold sols
    refine List.filter_congr fun bs hb => ?_
    rw [Bool.and_assoc]
    congr 1
    rw [Bool.eq_iff_iff, Bool.and_eq_true, up_b, up_b, decide_eq_true_iff]
    have hu := u_tv (mem_allB.1 hb)
    constructor
    · intro h
      exact ⟨(setL_up ht okk hk).trans h, by rw [h.wo (by rw [setL_one ht okk]; decide), setL_one ht okk]⟩
    · rintro ⟨h1, h2⟩ i x hx hx0
      rw [setL_get ht okk] at hx
      split at hx
      · rename_i e
        subst e
        rw [← hx, wo_at hu okk, h2]; simp
      · exact h1 i x hx hx0
  rw [key l ok h0, key (-l) ok.neg (by rw [wo_opp ok, h0]; rfl)]
  unfold sols
  rw [filter_split (fun bs => evalM bs f && upB t (uOf bs)) (fun bs => decide (wo (uOf bs) l = 1))]
  congr 2
  refine List.filter_congr fun bs hb => ?_
  congr 1
  have hu := u_tv (mem_allB.1 hb)
  have hne : wo (uOf bs) l ≠ 0 := by
    obtain ⟨i, hi, e⟩ := ok.form
    obtain ⟨b, hbi⟩ : ∃ b, bs[i]? = some b := ⟨_, List.getElem?_eq_getElem (by rw [mem_allB.1 hb]; exact hi)⟩
    rcases e with rfl | rfl
    · rw [wo_pos, u_at hbi]; cases b <;> simp
    · rw [wo_neg, u_at hbi]; cases b <;> simp
  rw [wo_opp ok]
  rcases wo_cases hu l with e | e | e
  · rw [e]; decide
  · exact absurd e hne
  · rw [e]; decide
/-- Where nothing is open there is one row of truths at most. -/
theorem sols_full {n : Nat} {f : List (List Int)} {t : List Int} (ht : TV n t) (hz : t.count 0 = 0) (ok : FOk n f) (hn : n ≤ 65536) (hr : Rest f t) : sols n f t = [t.map fun x => x == 1] := by
  have hnz : ∀ x ∈ t, x ≠ 0 := fun x hx e => by
    have := List.count_pos_iff.2 (e ▸ hx : (0 : Int) ∈ t); omega
  have hlen : (t.map fun x => x == 1).length = n := by rw [List.length_map, ht.1]
  have hu : uOf (t.map fun x => x == 1) = t := by
    refine List.ext_getElem? fun i => ?_
    unfold uOf
    rw [List.map_map, List.getElem?_map]
    cases e : t[i]? with
    | none => rfl
    | some x =>
      have h1 := ht.2 i x e
      have h2 := hnz x (List.mem_of_getElem? e)
      rcases h1 with rfl | rfl | rfl
      · rfl
      · exact absurd rfl h2
      · rfl
  have hev : evalM (t.map fun x => x == 1) f = true := (eval_iff hlen ok hn).2 fun c hc => by
    rw [hu]
    rcases hr c hc with h | ⟨x, hx, y, hy, _, h1, _⟩
    · exact h
    · have hat := wo_at ht (ok c hc x hx)
      rw [h1] at hat
      simp at hat
      exact absurd rfl (hnz 0 (List.mem_of_getElem? hat))
  have hmem : ∀ bs, bs ∈ sols n f t ↔ bs = t.map fun x => x == 1 := fun bs => by
    rw [mem_sols]
    constructor
    · rintro ⟨h1, _, h3⟩
      refine List.ext_getElem? fun i => ?_
      rw [List.getElem?_map]
      by_cases hi : i < n
      · obtain ⟨x, hx⟩ : ∃ x, t[i]? = some x := ⟨_, List.getElem?_eq_getElem (by rw [ht.1]; exact hi)⟩
        obtain ⟨b, hb⟩ : ∃ b, bs[i]? = some b := ⟨_, List.getElem?_eq_getElem (by omega)⟩
        have h4 := h3 i x hx (hnz x (List.mem_of_getElem? hx))
        rw [u_at hb] at h4
        injection h4 with h4
        rw [hx, hb]
        cases b <;> simp at h4 <;> subst h4 <;> rfl
      · rw [List.getElem?_eq_none (by omega), List.getElem?_eq_none (by rw [ht.1]; omega)]; rfl
    · rintro rfl
      exact ⟨hlen, hev, by rw [hu]; exact Up.refl t⟩
  have hnd : (sols n f t).Nodup := (allB_nodup n).sublist List.filter_sublist
  match e : sols n f t, hnd, hmem with
  | [], _, hmem => exact absurd ((hmem _).2 rfl) (by simp)
  | [a], _, hmem => rw [(hmem a).1 (by simp)]
  | a :: b :: s, hnd, hmem =>
    have h1 := (hmem a).1 (by simp)
    have h2 := (hmem b).1 (by simp)
    subst h1
    rw [h2] at hnd
    simp at hnd
end Go.Proofs.YtcebpbjpbnfacaaGreat

/-
  Solve of package dpll: from the search's answer to the formula's. Plain mathematics.
-/
namespace Go.Proofs.YtcebpbjpbnfacaaGreat
open Go.RowKit
set_option linter.unusedVariables false
set_option linter.unusedSimpArgs false

section
variable {n f0 : Nat} {d d0 : Sd} {K0 : Nat → Prop} {Mo : (Nat → Bool) → Prop} {f : List (List Int)} {t w0 : List Int}
/-- A search that is ready begins. -/
theorem Rdy.rn (R : Rdy n K0 Mo d) (hc : d.cls.length ≤ f0) : Rn n K0 Mo d f0 0 0 d := by
  have hl : lob 1 = 1 := by decide +kernel
  refine ⟨⟨R.I, fun k c i x hk hi hx hj => ?_, R.Q, R.C, R.lk, R.gq, R.se, R.nu, R.dpn⟩, ⟨by rw [R.pc]; decide, by rw [R.pc, R.pu]; decide, by rw [R.pc]; omega, ⟨1, 0, 0, by rw [R.pt]; rfl, by rw [R.pu]; rfl, Nat.le_refl _, Nat.one_le_two_pow, by rw [hl]; decide, Nat.le_add_left _ _, by rw [R.pc]; rfl⟩, by rw [R.le]; decide, by rw [R.le]; omega, by rw [R.mo]; exact ⟨by decide, by decide⟩, by omega⟩, Keeps.refl _, Nat.zero_le _, id⟩
  obtain ⟨j, hj, _⟩ := hj
  rw [R.nx] at hj; omega
/-- The truths that are answered. -/
def trs (wo' : List Int) (n : Nat) : List Bool := (List.range n).map fun v => decide (v < n) && decide (wo'[2 * v]? = some 1)
theorem trs_len (wo' : List Int) (n : Nat) : (trs wo' n).length = n := by simp [trs]
theorem trs_arr (wo' : List Int) (n : Nat) : trArr wo' n n = ((trs wo' n).map Value.bool).toArray := by
  unfold trArr trs
  rw [List.map_map]; rfl
theorem trs_at (wo' : List Int) {n v : Nat} (h : v < n) : (trs wo' n)[v]? = some (decide (wo'[2 * v]? = some 1)) := by
  unfold trs
  rw [List.getElem?_map, List.getElem?_range h]
  simp [h]
theorem trs_holds (T : Wo n d.wo) {x : Int} (ok : LOk n x) (h : wv d.wo (litOf x) = 1) : wo (uOf (trs d.wo n)) x = 1 := by
  obtain ⟨i, hi, e⟩ := ok.form
  have hw : d.wo[2 * i]? = some (wv d.wo (2 * i)) := wv_at (by rw [T.len]; omega)
  rcases e with rfl | rfl
  · have e : litOf ((i : Int) + 1) = 2 * i := by unfold litOf; rw [if_neg (by omega)]; omega
    rw [e] at h
    rw [wo_pos, u_at (trs_at d.wo hi), hw, h]; rfl
  · have e : litOf (-((i : Int) + 1)) = 2 * i + 1 := by unfold litOf; rw [if_pos (by omega)]; omega
    rw [e] at h
    have e2 : oth (2 * i) = 2 * i + 1 := by unfold oth; rw [if_pos (by omega)]
    have h3 := T.opp (2 * i) (by omega)
    rw [e2, h] at h3
    rw [wo_neg, u_at (trs_at d.wo hi), hw, show wv d.wo (2 * i) = -1 by omega]; rfl
theorem full_one {bs : List Bool} (hb : bs.length = n) {x : Int} (ok : LOk n x) : wo (uOf bs) x = 1 ∨ wo (uOf bs) x = -1 := by
  obtain ⟨i, hi, e⟩ := ok.form
  obtain ⟨b, hbi⟩ : ∃ b, bs[i]? = some b := ⟨_, List.getElem?_eq_getElem (by omega)⟩
  rcases e with rfl | rfl
  · rw [wo_pos, u_at hbi]; cases b <;> simp
  · rw [wo_neg, u_at hbi]; cases b <;> simp
/-- All claims hold: so does the formula. -/
theorem sat_eval (okf : FOk n f) (hn : n ≤ 65536) (T : Tl n (K0of w0) d) (C : Cov (K0of w0) d0 f) (K : Keeps d0.cls d.cls) (H : ∀ c ∈ d.cls, ∃ q ∈ c.ls, wv d.wo q = 1) : evalM (trs d.wo n) f = true := by
  refine (eval_iff (trs_len _ _) okf hn).2 fun c hc => ?_
  have hm := row_mems (okf c hc) hn
  rcases C c hc with h | ⟨x, hx, h⟩ | ⟨k, cl, hk, h0, hl⟩
  · obtain ⟨i, x, y, hx, hy, e⟩ := taut_iff.1 h
    have hx := (hm x).1 (List.mem_of_getElem? hx)
    have hy := (hm y).1 (List.mem_of_getElem? hy)
    subst e
    have ok := okf c hc x hx
    rcases full_one (trs_len d.wo n) ok with e | e
    · exact ⟨x, hx, e⟩
    · exact ⟨-x, hy, by rw [wo_opp ok, e]; rfl⟩
  · have hx := (hm x).1 hx
    have ok := okf c hc x hx
    exact ⟨x, hx, trs_holds T.w ok ((T.one _ (litOf_lt ok.1 ok.2.1 ok.2.2)).2 (.inr h))⟩
  · obtain ⟨c', hc', _, hp⟩ := K cl (List.mem_of_getElem? hk) h0
    obtain ⟨q, hq, h1⟩ := H c' hc'
    obtain ⟨x, hx, rfl⟩ := hl q (hp.mem_iff.1 hq)
    have hx := (hm x).1 hx
    exact ⟨x, hx, trs_holds T.w (okf c hc x hx) h1⟩
/-- No truths for the search: none for the formula. -/
theorem unsat_eval (okf : FOk n f) (hn : n ≤ 65536) (A : Ans n f (List.replicate n 0) (some t)) (kn : Kn n t w0) (H : ∀ m, ¬ MoF n f w0 m) (bs : List Bool) (hb : bs.length = n) : evalM bs f = false := by
  cases he : evalM bs f with
  | false => rfl
  | true =>
    exfalso
    have ht := A.1
    have up : Up t (uOf bs) := A.2.2.2 _ (u_tv hb) (fun i x hx h0 => by
      rw [List.getElem?_replicate] at hx
      split at hx
      · injection hx with hx; exact absurd hx.symm h0
      · cases hx) (eval_rests hb okf hn he)
    obtain ⟨mm, hmm⟩ : ∃ mm : Nat → Bool, ∀ v, mm v = bs[v]?.getD false := ⟨fun v => bs[v]?.getD false, fun _ => rfl⟩
    have key : ∀ (v : Nat) (b : Bool), bs[v]? = some b → mm v = b := fun v b h => by rw [hmm, h]; rfl
    refine H mm ⟨fun c hc => ?_, fun q hq h1 => ?_⟩
    · obtain ⟨x, hx, e⟩ := (eval_iff hb okf hn).1 he c hc
      refine ⟨x, hx, ?_⟩
      obtain ⟨i, hi, e2⟩ := (okf c hc x hx).form
      obtain ⟨b, hbi⟩ : ∃ b, bs[i]? = some b := ⟨_, List.getElem?_eq_getElem (by omega)⟩
      rcases e2 with rfl | rfl
      · have e3 : litOf ((i : Int) + 1) = 2 * i := by unfold litOf; rw [if_neg (by omega)]; omega
        rw [wo_pos, u_at hbi] at e
        rw [e3]; unfold lt_
        rw [if_pos (by omega), show 2 * i / 2 = i by omega, key i b hbi]
        cases b with
        | true => rfl
        | false => cases e
      · have e3 : litOf (-((i : Int) + 1)) = 2 * i + 1 := by unfold litOf; rw [if_pos (by omega)]; omega
        rw [wo_neg, u_at hbi] at e
        rw [e3]; unfold lt_
        rw [if_neg (by omega), show (2 * i + 1) / 2 = i by omega, key i b hbi]
        cases b with
        | true => cases e
        | false => rfl
    · have hv : q / 2 < n := by omega
      obtain ⟨x, hx⟩ : ∃ x, t[q / 2]? = some x := ⟨_, List.getElem?_eq_getElem (by rw [ht.1]; exact hv)⟩
      obtain ⟨b, hbi⟩ : ∃ b, bs[q / 2]? = some b := ⟨_, List.getElem?_eq_getElem (by omega)⟩
      obtain ⟨a1, a2⟩ := kn.yes _ x hx
      show lt_ _ q = true
      unfold lt_
      by_cases hp : q % 2 = 0
      · rw [if_pos hp, key _ b hbi]
        rw [show 2 * (q / 2) = q by omega] at a1
        rw [wv_of a1] at h1
        subst h1
        have := up _ _ hx (by decide)
        rw [u_at hbi] at this
        cases b with
        | true => rfl
        | false => simp at this
      · rw [if_neg hp, key _ b hbi]
        rw [show 2 * (q / 2) + 1 = q by omega] at a2
        rw [wv_of a2] at h1
        have hx1 : x = -1 := by omega
        subst hx1
        have := up _ _ hx (by decide)
        rw [u_at hbi] at this
        cases b with
        | true => simp at this
        | false => rfl
/-- What Solve answers. -/
def SvPost (n : Nat) (f : List (List Int)) (b : Int) (w : World) (e : Ending) (w' : World) : Prop := Below w.heap.size w w' ∧
  ((∃ (m : List Bool) (g : Nat), e = .returned (.tuple #[.int .i64 1, .slice (some ⟨g, 0, none⟩) n n, .int .i64 0]) ∧ w.heap.size ≤ g ∧ HasB w' g 4 (m.map Value.bool).toArray ∧ m.length = n ∧ evalM m f = true) ∨
   (e = .returned (.tuple #[.int .i64 2, .slice none 0 0, .int .i64 0]) ∧ ∀ m : List Bool, m.length = n → evalM m f = false) ∨
   (e = .returned (.tuple #[.int .i64 3, .slice none 0 0, .int .i64 0]) ∧ grant n b ≠ 9223372036854775807 ∧ f ≠ []))
end
end Go.Proofs.YtcebpbjpbnfacaaGreat

/-
  run of package dpll: the walk.
-/
namespace Go.Proofs.YtcebpbjpbnfacaaGreat
open Go.ChangeShapes Go.WideShapes Go.ChangeAt Go.RowKit
set_option linter.unusedVariables false
set_option linter.unusedSimpArgs false

section
variable {B : Nat} {τ : Nat → Nat} {w : World} {p n f0 : Nat} {d0 : Sd} {K0 : Nat → Prop} {Mo : (Nat → Bool) → Prop}
theorem TuRel.marks {d d' : Sd} (r : TuRel n d d') (h : 1 ≤ d.ma.length) : d'.ma.length < d.ma.length := by
  rcases r.go with ⟨_, _, _, _, g, _⟩ | ⟨_, _, _, _, g⟩
  · exact g
  · rw [g]; exact h
set_option maxHeartbeats 3200000 in
theorem drun_any (h : Sr B τ w p n d0) (R : Rn n K0 Mo d0 f0 0 0 d0) (hn : n ≤ 20) (hf : f0 ≤ 100000) (b0 : Int) (hb0 : 0 ≤ b0) (hb1 : b0 ≤ 9223372036854775807)
    (HST : Hid (∀ (τ8 : Nat → Nat) (W : World) (d8 d : Sd) (ct : Nat), Lub n f0 ct d → d.tr.length ≤ n → Sr B τ8 W p n d8 → Ru n K0 Mo d8 → 0 ≤ d8.le → d8.le ≤ d.le + 1 → d8.mo = d.mo → d8.cls.length ≤ d.cls.length + 1 → Calls Tryz.prog 104 #[ptr p] W (StPost B τ8 W p n K0 Mo d8))) :
    Calls Tryz.prog 34 #[ptr p, .int .i64 b0] w (RnPost B τ w p n K0 Mo d0 b0) := by
  have H0 : Hid (Sr B τ w p n d0 ∧ Stp τ τ w w ∧ Rn n K0 Mo d0 f0 0 0 d0) := ⟨h, Stp.refl _ _, R⟩
  clear h R
  go_enter Tryz.func34, Tryz.ntmps34
  go_wp2_with fail
  go_loopg [1] (2 * b0.toNat + d0.ma.length) (fun gg bv wr => ∃ (d : Sd) (τ' : Nat → Nat) (D ct : Nat), bv = .int .i64 (b0 - (D : Int)) ∧ (D : Int) ≤ b0 ∧ Hid (Sr B τ' wr p n d ∧ Stp τ τ' w wr ∧ Rn n K0 Mo d0 f0 D ct d) ∧ 2 * (b0 - (D : Int)).toNat + d.ma.length ≤ gg)
  case atStart => exact ⟨d0, τ, 0, 0, by simp, hb0, H0, by simp⟩
  case round =>
    obtain ⟨d, τ', D, ct, rfl, hD, R, hgg⟩ := hrel
    clear H0
    have CF := Lib.hid (dfollow_any R.out.1 R.out.2.2.ru.I R.out.2.2.ru.P R.out.2.2.ru.gq)
    go_wp2_with fail
    (with_reducible refine CF.out.mono ?_)
    rintro e w1 ⟨τ1, d1, s1, t1, v1, f1, g1, hr⟩
    have hma : d1.ma = d.ma := by
      obtain ⟨_, _, _, _, _, _, _, _, _, e⟩ := f1.same
      rw [e]
    rcases hr with ⟨rfl, hx, pr⟩ | ⟨k, c, gone, rfl, cf⟩
    · have R1 := Lib.hid (R.out.2.2.follow f1 v1 pr g1)
      have S1 := Lib.hid s1
      have T1 := Lib.hid (R.out.2.1.trans t1)
      have CP := Lib.hid (pick_any s1 v1.L R1.out.ru.Q)
      clear s1 t1 f1 v1 pr g1 CF
      go_wp2_with fail
      (with_reducible refine CP.out.mono ?_)
      rintro e w2 ⟨τ2, hp2, pl2, s2, t2, q2, m2, hr⟩
      rcases hr with ⟨rfl, hno⟩ | ⟨v, rfl, hv, hv0, hvo⟩
      · have HE : Hid (RnPost B τ w p n K0 Mo d0 b0 (.returned (.int .i64 1)) w2) := ⟨τ2, _, s2, T1.out.trans t2, (R1.out.ru.I.queue hp2 pl2).L, (R1.out.ru.I.queue hp2 pl2).T, .inl ⟨rfl, R1.out.kp, R1.out.ru.sat hx hno⟩⟩
        clear s2 t2 q2 m2 hno CP
        go_wp2_with fail
        go_ret
        exact HE.out
      · have kn : ((v : Int) == -1) = false := beq_eq_false_iff_ne.2 (by omega)
        have kn2 : ¬ (v : Int) = -1 := by omega
        by_cases hb : (D : Int) = b0
        · have HE : Hid (RnPost B τ w p n K0 Mo d0 b0 (.returned (.int .i64 3)) w2) := ⟨τ2, _, s2, T1.out.trans t2, (R1.out.ru.I.queue hp2 pl2).L, (R1.out.ru.I.queue hp2 pl2).T, .inr (.inr ⟨rfl, by have := R1.out.few hn; omega, fun h => by
            obtain ⟨_, b⟩ := R1.out.nil h
            rw [b] at hv; cases hv⟩)⟩
          have b1 : b0 - (D : Int) = 0 := by omega
          rw [b1]
          clear s2 t2 q2 m2 hv0 hvo CP
          go_wp2_with fail
          go_ret
          exact HE.out
        · have hvn : v < n := by
            obtain ⟨j, hj⟩ := List.getElem?_of_mem hv
            exact (R1.out.ru.Q.at_ j v hj).1
          obtain ⟨q, hq, hq2⟩ := R1.out.ru.lk v hvn
          have hqn : q < 2 * n := by omega
          have h0 : wv d1.wo q = 0 := by
            have e0 := wv_of hv0
            by_cases hpar : q % 2 = 0
            · rw [show q = 2 * v by omega]; exact e0
            · have e1 : q = oth (2 * v) := by unfold oth; rw [if_pos (by omega)]; omega
              rw [e1, R1.out.ru.I.T.w.opp (2 * v) (by omega), e0]; rfl
          have R2 := Lib.hid (R1.out.decide hx q2 hqn hq2 hv h0 hvo)
          have CD := Lib.hid (fun (W : World) (S : Sr B τ2 W p n { d1 with hp := hp2, pl := pl2 }) => decide_any S (R1.out.ru.I.queue hp2 pl2).L (R1.out.ru.I.T.ma_lt hqn h0) hqn)
          have S2 := Lib.hid s2
          have T2 := Lib.hid (T1.out.trans t2)
          obtain ⟨g8, c8, a8⟩ := s2.at_lk (by show 0 < d1.lk.length; rw [R1.out.ru.I.L.lk]; omega)
          have f8 := a8.len_lk.1
          have l8 := a8.len_lk.2
          have k8 := a8.cap
          have x8 := a8.lk hq
          have z8 := a8.lt
          have zp := s2.plt
          have hb2 : ¬ b0 - (D : Int) = 0 := by omega
          have hb3 : (b0 - (D : Int) == 0) = false := beq_eq_false_iff_ne.2 hb2
          have hw : IntKind.i64.wrap (b0 - (D : Int) - 1) = b0 - (D : Int) - 1 := IntWalk.i64_in _ (by omega)
          have v1 : (0 : Int) ≤ (v : Int) := by omega
          have v2 : (v : Int) < (d1.lk.length : Int) := by rw [R1.out.ru.I.L.lk]; omega
          have hmm : d1.ma.length = d.ma.length := by rw [hma]
          have HMM := Lib.hid hmm
          clear hmm hma s2 t2 q2 m2 hv0 hvo CP a8 hq hq2 hv h0 S1 T1
          go_wp2_with fail
          (with_reducible refine (CD.out w2 S2.out).mono ?_)
          rintro e w3 ⟨rfl, τ3, s3, t3⟩
          have R3 : Hid (Sr B τ3 w3 p n (({ d1 with hp := hp2, pl := pl2 } : Sd).decided q) ∧ Stp τ τ3 w w3 ∧ Rn n K0 Mo d0 f0 (D + 1) ct (({ d1 with hp := hp2, pl := pl2 } : Sd).decided q)) := ⟨s3, T2.out.trans t3, R2.out⟩
          have hml : (({ d1 with hp := hp2, pl := pl2 } : Sd).decided q).ma.length = d.ma.length + 1 := by
            show (d1.ma ++ [d1.tr.length]).length = _
            rw [List.length_append, HMM.out]; rfl
          have HML := Lib.hid hml
          clear s3 t3 CD hml S2 T2 R2 R1
          go_wp2_with fail
          go_roundg (2 * (b0 - (D : Int) - 1).toNat + d.ma.length + 1)
          case measure => omega
          case rel => exact ⟨_, τ3, D + 1, ct, by go_num, by omega, R3, by rw [HML.out]; omega⟩
    · by_cases hm0 : d1.ma = []
      · have HE : Hid (RnPost B τ w p n K0 Mo d0 b0 (.returned (.int .i64 2)) w1) := ⟨τ1, d1, s1, R.out.2.1.trans t1, v1.L, v1.T, .inr (.inl ⟨rfl, cf.unsat v1 hm0⟩)⟩
        obtain ⟨A4, c4, f4, _⟩ := s1.head_ma
        rw [hm0] at f4
        have f4 : w1.cell? ⟨p, 4, none⟩ = some (.slice A4 0 c4) := f4
        have zp := s1.plt
        have kn : ((k : Int) == -1) = false := beq_eq_false_iff_ne.2 (by omega)
        have kn2 : ¬ (k : Int) = -1 := by omega
        clear s1 t1 f1 v1 g1 cf CF hm0 hma
        go_wp2_with fail
        go_ret
        exact HE.out
      · have hL : 1 ≤ d1.ma.length := List.length_pos_iff.2 hm0
        obtain ⟨a, b, c', e', g', i'⟩ := R.out.2.2.ru.fol f1 v1
        have l1 := R.out.2.2.lub.follow f1
        have htop := l1.top hn v1.L.tr
        have hcb : d1.cls.length + 1 < 2147483648 := by have := l1.cl; omega
        have CT := Lib.hid (turn_any s1 v1 cf a b c' g1 e' g' i' hL (l1.pce hn v1.L.tr hf) l1.vb hcb (Lib.hid (fun τ8 W d8 x1 x2 x3 x4 x5 x6 => HST.out τ8 W d8 d1 ct l1 v1.L.tr x1 x2 x3 x4 x5 x6)))
        obtain ⟨A4, c4, f4o, _⟩ := s1.head_ma
        have zp := s1.plt
        have T1 := Lib.hid (R.out.2.1.trans t1)
        have F1 := Lib.hid f1
        have CFF := Lib.hid cf
        have HL := Lib.hid hL
        have hmm : d1.ma.length = d.ma.length := by rw [hma]
        have HMM := Lib.hid hmm
        obtain ⟨N, hN⟩ : ∃ N, d1.ma.length = N := ⟨_, rfl⟩
        have f4 : w1.cell? ⟨p, 4, none⟩ = some (.slice A4 N c4) := by rw [← hN]; exact f4o
        have hN0 : ¬ (N : Int) = 0 := by omega
        have hN1 : ((N : Int) == 0) = false := beq_eq_false_iff_ne.2 hN0
        have HN := Lib.hid hN
        have kn : ((k : Int) == -1) = false := beq_eq_false_iff_ne.2 (by omega)
        have kn2 : ¬ (k : Int) = -1 := by omega
        clear s1 t1 f1 v1 g1 cf CF hm0 hma a b c' e' g' i' l1 htop hcb hL hmm hN f4o
        go_wp2_with fail
        (with_reducible refine CT.out.mono ?_)
        rintro e w2 ⟨rfl, τ2, d2, s2, t2, ru2, r2⟩
        have hlt := r2.marks HL.out
        have hlt2 : d2.ma.length < d.ma.length := by rw [← HMM.out]; exact hlt
        have R2 : Hid (Sr B τ2 w2 p n d2 ∧ Stp τ τ2 w w2 ∧ Rn n K0 Mo d0 f0 D (ct + 1) d2) := ⟨s2, T1.out.trans t2, R.out.2.2.turn hn F1.out CFF.out ru2 r2⟩
        clear s2 t2 ru2 r2 CT
        go_wp2_with fail
        go_roundg (2 * (b0 - (D : Int)).toNat + d2.ma.length)
        case measure => omega
        case rel => exact ⟨d2, τ2, D, ct + 1, rfl, hD, R2, Nat.le_refl _⟩
end
end Go.Proofs.YtcebpbjpbnfacaaGreat

/-
  startOver of package dpll, where nothing is forgotten: what it makes of a search.
-/
namespace Go.Proofs.YtcebpbjpbnfacaaGreat
open Go.ChangeShapes Go.WideShapes Go.ChangeAt Go.RowKit
set_option linter.unusedVariables false
set_option linter.unusedSimpArgs false

section
variable {B : Nat} {τ : Nat → Nat} {w : World} {p n : Nat} {d : Sd} {K0 : Nat → Prop} {Mo : (Nat → Bool) → Prop}
theorem start_small (h : Sr B τ w p n d) (R : Ru n K0 Mo d) (h0 : 0 ≤ d.le) (hle : d.le ≤ d.mo) :
    Calls Tryz.prog 104 #[ptr p] w (StPost B τ w p n K0 Mo d) := by
  by_cases hm : d.ma = []
  · refine (start_none h R.I.L hm hle).mono ?_
    rintro e w' ⟨rfl, b⟩
    exact ⟨rfl, τ, d, h.below b, Stp.of_below _ b, R, ⟨hm, rfl, rfl, rfl, h0, .inl (Int.le_refl _), ⟨Int.le_refl _, by omega⟩, ⟨Nat.le_refl _, Keeps.refl _⟩⟩⟩
  · obtain ⟨fr, hfr⟩ : ∃ fr, d.ma[0]? = some fr := ⟨_, List.getElem?_eq_getElem (List.length_pos_iff.2 hm)⟩
    refine (start_back h R.I.L R.Q R.lk R.I.T.tl hfr (R.I.T.mb fr (List.mem_of_getElem? hfr)) hle).mono ?_
    rintro e w' ⟨rfl, τ9, lk9, hp9, pl9, a, b, c, e, f, g⟩
    exact ⟨rfl, τ9, d.back 0 fr lk9 hp9 pl9, a, b, R.over hfr f c e g, ⟨rfl, rfl, rfl, rfl, h0, .inl (Int.le_refl _), ⟨Int.le_refl _, by show d.mo ≤ d.mo + 500; omega⟩, ⟨Nat.le_refl _, Keeps.refl _⟩⟩⟩
end
end Go.Proofs.YtcebpbjpbnfacaaGreat
