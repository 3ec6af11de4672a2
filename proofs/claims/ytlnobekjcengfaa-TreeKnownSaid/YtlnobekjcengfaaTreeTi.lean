/-
  The program's own tree: what its functions answer, by two parts, is what the plain data say by paths.
-/
import Derived.Test.YtlnobekjcengfaaTreeTh
namespace Go.Proofs.Ytlnobekjcengfaa
set_option linter.unusedVariables false
set_option linter.unusedSimpArgs false

theorem spl_zero {p : List UInt8} : spl p = ([], []) ↔ nameB p = false := by
  constructor
  · intro h
    cases hn : nameB p with
    | false => rfl
    | true =>
      rcases name_cases hn with ⟨h1, _, h2, _⟩ | ⟨a, b, c, _, _, _, h1, _, h2, _⟩
      · rw [h2] at h; exact absurd (Prod.mk.inj h).2 (part_ne h1)
      · rw [h2] at h; exact absurd (Prod.mk.inj h).2 (part_ne h1)
  · exact spl_no
/-- The directory of a name is a name of one part. -/
theorem up_name {p : List UInt8} (h : (spl p).1 ≠ []) : nameB (spl p).1 = true ∧ spl (spl p).1 = ([], (spl p).1) := by
  cases hn : nameB p with
  | false => rw [spl_no hn] at h; exact absurd rfl h
  | true =>
    rcases name_cases hn with ⟨h1, _, h2, _⟩ | ⟨a, b, c, h0, _, h1, _, h8, h2, _⟩
    · rw [h2] at h; exact absurd rfl h
    · rw [h2]
      have hb : nameB a = true := by
        rw [name_one (part_flat h1), h1, decide_eq_true (by rw [h0] at h8; simp at h8; omega)]; rfl
      exact ⟨hb, spl_one hb (part_flat h1)⟩
theorem pl_path {l : List Itm} (ok : Ok l) (p : List UInt8) : plI l (spl p) = if nameB p = true then abv l p else 65282 := by
  unfold plI
  cases hn : nameB p with
  | false => rw [if_pos (spl_zero.2 hn)]; rfl
  | true =>
    rw [if_neg (fun h => by rw [spl_zero.1 h] at hn; cases hn), if_pos rfl]
    unfold abv
    by_cases e : (spl p).1 = []
    · rw [if_pos e, if_pos e]
    · rw [if_neg e, if_neg e]
      obtain ⟨h1, h2⟩ := up_name e
      rw [← h2, nlook_look ok h1]
      cases look l (spl p).1 <;> rfl
theorem fn_path {l : List Itm} (ok : Ok l) (p : List UInt8) : fnI l (spl p) = findT l p := by
  unfold fnI findT
  rw [pl_path ok]
  cases hn : nameB p with
  | false => rfl
  | true =>
    rw [if_pos rfl, if_pos rfl, nlook_look ok hn]
    cases look l p <;> rfl
theorem mn_path {l : List Itm} (ok : Ok l) {p : List UInt8} (hn : nameB p = true) : mnI l (spl p) = manyL l p := by
  unfold mnI manyL
  congr 1
  refine List.filter_congr fun i hi => ?_
  show decide _ = _
  rcases name_cases hn with ⟨h1, _, h2, _⟩ | ⟨a, b, c, h0, h47, hpa, hpb, _, h2, _⟩
  · rw [h2]
    by_cases e : (spl i.p).1 = p
    · rw [e]; simp
    · rw [decide_eq_false (fun h => e (Prod.mk.inj h).2), beq_false_of_ne e]
  · rw [h2]
    have e1 : ¬ (([], (spl i.p).1) : Pr) = (a, b) := fun h => by
      have := (Prod.mk.inj h).1
      exact part_ne hpa this.symm
    have e2 : ¬ (spl i.p).1 = p := fun h => by
      by_cases e : (spl i.p).1 = []
      · rw [e] at h; rw [← h] at h0; simp at h0
      · obtain ⟨k1, k2⟩ := up_name e
        rw [h, h2] at k2
        have := (Prod.mk.inj k2).1
        exact part_ne hpa this
    rw [decide_eq_false e1, beq_false_of_ne e2]
/-- Nothing stands in a file. -/
theorem many_file {l : List Itm} (ok : Ok l) {p : List UInt8} {i : Itm} (h : look l p = some i) (hd : i.d = false) (hp : p ≠ []) : manyL l p = 0 := by
  unfold manyL
  rw [List.filter_eq_nil_iff.2 fun j hj hk => ?_]
  · rfl
  · have e : (spl j.p).1 = p := by simpa using hk
    obtain ⟨d, h1, h2, h3⟩ := ok.up j hj (by rw [e]; exact hp)
    have : d = i := ok.same h1 (look_mem h) (by rw [h2, e, look_path h])
    rw [this, hd] at h3
    cases h3
theorem name_ne {p : List UInt8} (h : nameB p = true) : p ≠ [] := fun e => by rw [e] at h; cases h
theorem dp_path {l : List Itm} (ok : Ok l) (nx : Int) (p : List UInt8) (dir : Bool) : dpI l (spl p) dir = (dropT ⟨l, nx⟩ p dir).1 ∧ (dropT ⟨l, nx⟩ p dir).2 = if dpI l (spl p) dir = 0 then ⟨l.eraseP (is p), nx⟩ else ⟨l, nx⟩ := by
  unfold dpI dropT
  rw [fn_path ok]
  by_cases e0 : (findT l p).2.2 = 0
  · obtain ⟨hn, ha, i, hi, hf⟩ := find_zero e0
    simp only [hf, if_true]
    rw [mn_path ok hn]
    cases dir with
    | true =>
      cases hd : i.d with
      | true =>
        by_cases hm : 0 < manyL l p
        · simp [hm]
        · simp [hm]
      | false => simp
    | false =>
      cases hd : i.d with
      | true => simp
      | false => simp [many_file ok hi hd (name_ne hn)]
  · simp only [if_neg e0]
    exact ⟨trivial, trivial⟩
theorem mk_path {l : List Itm} (ok : Ok l) (nx : Int) (p : List UInt8) (dir : Bool) : makeT ⟨l, nx⟩ p dir = if mkI l (spl p) dir = 0 then ((nx, 0), ⟨l ++ [⟨p, dir, nx⟩], nx + 1⟩) else ((-1, mkI l (spl p) dir), ⟨l, nx⟩) := by
  unfold mkI makeT
  rw [pl_path ok]
  cases hn : nameB p with
  | false => simp
  | true =>
    simp only [if_true]
    by_cases ha : abv l p = 0
    · simp only [ha, if_true]
      rw [nlook_look ok hn]
      cases look l p with
      | some i => simp
      | none =>
        by_cases h1 : dir = true ∧ (spl p).1 ≠ []
        · simp [h1]
        · by_cases h2 : 8 ≤ l.length
          · simp only [if_neg h1, if_pos h2]; rfl
          · simp only [if_neg h1, if_neg h2]; rfl
    · simp [ha]
theorem mv_path {l : List Itm} (ok : Ok l) (nx : Int) (a b : List UInt8) : moveT ⟨l, nx⟩ a b =
    if mvI l (spl a) (spl b) = 0 then (if spl a = spl b then ((-1, 0), ⟨l, nx⟩) else (((findT l b).1, 0), ⟨ren a b (l.eraseP (is b)), nx⟩)) else ((-1, mvI l (spl a) (spl b)), ⟨l, nx⟩) := by
  unfold mvI moveT
  rw [fn_path ok, pl_path ok]
  by_cases e0 : (findT l a).2.2 = 0
  · obtain ⟨hn, ha, i, hi, hf⟩ := find_zero e0
    simp only [hf, if_true]
    cases hd : i.d with
    | true => simp
    | false =>
      simp only [Bool.false_eq_true, if_false]
      cases hb : nameB b with
      | false => simp
      | true =>
        simp only [if_true]
        by_cases hab : abv l b = 0
        · simp only [hab, if_true]
          rw [nlook_look ok hb]
          by_cases e : a = b
          · subst e
            simp [hi, lkD, hd]
          · have es : ¬ spl a = spl b := fun h => e (spl_inj hn hb h)
            simp only [if_neg e, if_neg es]
            cases hl : look l b with
            | none =>
              have hfb : findT l b = (-1, false, 65282) := by unfold findT; simp [hb, hab, hl]
              have : l.eraseP (is b) = l := by
                rw [erase_filter ok.nd, not_filter (look_not hl)]
              simp [lkD, hfb, this]
            | some j =>
              have hfb : findT l b = (j.n, j.d, 0) := by unfold findT; simp [hb, hab, hl]
              cases hj : j.d with
              | true => simp [lkD, hj]
              | false => simp [lkD, hj, hfb]
        · simp [hab]
  · simp only [if_neg e0]
/-! ### New -/
def runN : List (List UInt8 × Bool) → St → Option St
  | [], s => some s
  | e :: es, s => if (makeT s e.1 e.2).1.2 = 0 then runN es (makeT s e.1 e.2).2 else none
theorem runN_app : ∀ (a b : List (List UInt8 × Bool)) (s : St), runN (a ++ b) s = (runN a s).bind (runN b)
  | [], b, s => rfl
  | e :: a, b, s => by
    show (if _ then _ else _) = Option.bind (if _ then _ else _) _
    split
    · exact runN_app a b _
    · rfl
theorem make_put (l : List Itm) (k : Nat) (p : List UInt8) (d : Bool) (hl : l.length < 8) : match putT l p d k with
    | none => (makeT ⟨l, k⟩ p d).1.2 ≠ 0
    | some l' => makeT ⟨l, k⟩ p d = (((k : Int), 0), ⟨l', (k : Int) + 1⟩) ∧ l'.length = l.length + 1 := by
  unfold putT makeT abv
  cases hn : nameB p with
  | false => simp
  | true =>
    simp only [if_true]
    cases hk : look l p with
    | some i =>
      simp only
      by_cases e : (spl p).1 = []
      · simp [e]
      · simp only [if_neg e]
        cases look l (spl p).1 with
        | none => simp
        | some j => cases hj : j.d <;> simp [hj]
    | none =>
      by_cases e : (spl p).1 = []
      · simp [e, Nat.not_le.2 hl]
      · simp only [if_neg e]
        cases d with
        | true =>
          simp only [if_true]
          cases look l (spl p).1 with
          | none => simp
          | some j => cases hj : j.d <;> simp [e, hj]
        | false =>
          cases look l (spl p).1 with
          | none => simp
          | some j => cases hj : j.d <;> simp [hj, Nat.not_le.2 hl]
theorem make_eight (l : List Itm) (k : Int) (p : List UInt8) (d : Bool) (hl : 8 ≤ l.length) : (makeT ⟨l, k⟩ p d).1.2 ≠ 0 := by
  unfold makeT
  split
  · split
    · split
      · simp
      · split
        · simp
        · simp [hl]
    · rename_i h; exact h
  · simp
theorem runN_from : ∀ (es : List (List UInt8 × Bool)) (l : List Itm), l.length ≤ 8 → runN es ⟨l, l.length⟩ = if 8 < l.length + es.length then none else (fromT es l.length l).map (fun l' => ⟨l', (l.length + es.length : Nat)⟩)
  | [], l, h => by
    rw [if_neg (by simp; omega)]
    rfl
  | e :: es, l, h => by
    by_cases h8 : 8 ≤ l.length
    · rw [if_pos (by simp; omega)]
      show (if _ then _ else _) = _
      rw [if_neg (make_eight l _ e.1 e.2 h8)]
    · have hm := make_put l l.length e.1 e.2 (by omega)
      show (if _ then _ else _) = _
      rw [fromT]
      cases hp : putT l e.1 e.2 l.length with
      | none =>
        rw [hp] at hm
        rw [if_neg hm]
        simp
      | some l' =>
        rw [hp] at hm
        obtain ⟨h1, h2⟩ := hm
        have ih := runN_from es l' (by omega)
        rw [h1, if_pos rfl]
        rw [h2] at ih
        have e1 : ((l.length : Int) + 1) = ((l.length + 1 : Nat) : Int) := by omega
        have e2 : l.length + 1 + es.length = l.length + (e :: es).length := by simp; omega
        simp only [e1]
        rw [ih, e2]
theorem newT_run (es : List (List UInt8 × Bool)) : newT es = runN es ⟨[], 0⟩ := by
  have := runN_from es [] (by decide)
  simp only [List.length_nil, Nat.zero_add] at this
  rw [show (⟨[], 0⟩ : St) = ⟨[], ((0 : Nat) : Int)⟩ from rfl, this]
  rfl
end Go.Proofs.Ytlnobekjcengfaa
