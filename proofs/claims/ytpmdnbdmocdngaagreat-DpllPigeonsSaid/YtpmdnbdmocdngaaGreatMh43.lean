/-
  Parts of the proof, joined: DpllC1, DpllC2, DpllC3.
-/
import Derived.Test.YtpmdnbdmocdngaaGreatMh40
import Derived.Laws.BitsAllLaws
import Derived.Test.YtpmdnbdmocdngaaGreatMh12
import Derived.BigQuiet
import Derived.Test.YtpmdnbdmocdngaaGreatMh30
import Derived.Deep.RegionHeld3
import Derived.Laws.Rows

namespace Go.Proofs.YtpmdnbdmocdngaaGreat
set_option linter.unusedVariables false
set_option linter.unusedSimpArgs false

/-! ### A clause as two numbers -/
def bp (c : List Int) : Nat := c.foldl (fun a x => if 0 < x then a ||| 2 ^ (x - 1).toNat else a) 0
def bt (c : List Int) : Nat := c.foldl (fun a x => if 0 < x then a else a ||| 2 ^ (-x - 1).toNat) 0
theorem bp_snoc (c : List Int) (x : Int) : bp (c ++ [x]) = if 0 < x then bp c ||| 2 ^ (x - 1).toNat else bp c := by simp [bp]
theorem bt_snoc (c : List Int) (x : Int) : bt (c ++ [x]) = if 0 < x then bt c else bt c ||| 2 ^ (-x - 1).toNat := by simp [bt]
theorem bp_bit (i : Nat) : ∀ c : List Int, (bp c).testBit i = decide (((i : Int) + 1) ∈ c) := by
  refine snoc_ind (by simp [bp]) fun c x ih => ?_
  rw [bp_snoc]
  split
  · rename_i h
    rw [Nat.testBit_or, Nat.testBit_two_pow, ih]
    rw [Bool.eq_iff_iff]
    simp only [List.mem_append, List.mem_singleton, Bool.or_eq_true, decide_eq_true_eq]
    constructor
    · rintro (h1 | h1)
      · exact .inl h1
      · right; omega
    · rintro (h1 | h1)
      · exact .inl h1
      · right; omega
  · rw [ih]
    rw [Bool.eq_iff_iff]
    simp only [List.mem_append, List.mem_singleton, decide_eq_true_eq]
    exact ⟨.inl, fun h1 => h1.resolve_right (by omega)⟩
theorem bt_bit (i : Nat) : ∀ c : List Int, (∀ x ∈ c, x ≠ 0) → (bt c).testBit i = decide (-((i : Int) + 1) ∈ c) := by
  refine snoc_ind (by simp [bt]) fun c x ih => ?_
  intro hz
  have ih := ih fun y hy => hz y (List.mem_append_left _ hy)
  have hx := hz x (by simp)
  rw [bt_snoc]
  split
  · rw [ih]
    rw [Bool.eq_iff_iff]
    simp only [List.mem_append, List.mem_singleton, decide_eq_true_eq]
    exact ⟨.inl, fun h1 => h1.resolve_right (by omega)⟩
  · rename_i h
    rw [Nat.testBit_or, Nat.testBit_two_pow, ih]
    rw [Bool.eq_iff_iff]
    simp only [List.mem_append, List.mem_singleton, Bool.or_eq_true, decide_eq_true_eq]
    constructor
    · rintro (h1 | h1)
      · exact .inl h1
      · right; omega
    · rintro (h1 | h1)
      · exact .inl h1
      · right; omega
theorem bp_lt {n : Nat} (hn : n ≤ 24) : ∀ c : List Int, (∀ x ∈ c, LOk n x) → bp c < 2 ^ 24 := by
  refine snoc_ind (fun _ => by simp [bp]) fun c x ih => ?_
  intro hz
  have ih := ih fun y hy => hz y (List.mem_append_left _ hy)
  have hx := hz x (by simp)
  rw [bp_snoc]
  split
  · refine Nat.or_lt_two_pow ih ?_
    refine Nat.pow_lt_pow_right (by decide) ?_
    unfold LOk at hx; omega
  · exact ih
theorem bt_lt {n : Nat} (hn : n ≤ 24) : ∀ c : List Int, (∀ x ∈ c, LOk n x) → bt c < 2 ^ 24 := by
  refine snoc_ind (fun _ => by simp [bt]) fun c x ih => ?_
  intro hz
  have ih := ih fun y hy => hz y (List.mem_append_left _ hy)
  have hx := hz x (by simp)
  rw [bt_snoc]
  split
  · exact ih
  · refine Nat.or_lt_two_pow ih ?_
    refine Nat.pow_lt_pow_right (by decide) ?_
    unfold LOk at hx; omega
/-- No literal, no bit. -/
theorem bits_none {n : Nat} (hn : n ≤ 24) {c : List Int} (h : ∀ x ∈ c, LOk n x) : bp c ||| bt c = 0 ↔ c = [] := by
  constructor
  · intro e
    refine List.eq_nil_iff_forall_not_mem.2 fun x hx => ?_
    obtain ⟨i, hi, hx2⟩ := (h x hx).form
    have hb : (bp c ||| bt c).testBit i = true := by
      rw [Nat.testBit_or, bp_bit, bt_bit i c fun y hy => (h y hy).1]
      rcases hx2 with rfl | rfl <;> simp [hx]
    rw [e, Nat.zero_testBit] at hb; cases hb
  · rintro rfl; rfl
/-- The lowest bit. -/
theorem low_bit : ∀ x : Nat, 0 < x → ∃ k, x.testBit k = true ∧ ∀ i, (x.testBit i && !(x - 1).testBit i) = decide (i = k) := fun x => by
  induction x using Nat.strongRecOn with
  | ind x ih =>
    intro h
    by_cases hp : x % 2 = 1
    · refine ⟨0, by rw [Nat.testBit_zero]; simpa using hp, fun i => ?_⟩
      cases i with
      | zero => rw [Nat.testBit_zero, Nat.testBit_zero]; simp; omega
      | succ j =>
        rw [Nat.testBit_succ, Nat.testBit_succ, show (x - 1) / 2 = x / 2 by omega]
        simp
    · obtain ⟨k, h1, h2⟩ := ih (x / 2) (by omega) (by omega)
      refine ⟨k + 1, by rw [Nat.testBit_succ]; exact h1, fun i => ?_⟩
      cases i with
      | zero => rw [Nat.testBit_zero, Nat.testBit_zero]; simp; omega
      | succ j =>
        rw [Nat.testBit_succ, Nat.testBit_succ, show (x - 1) / 2 = x / 2 - 1 by omega, h2 j]
        simp
theorem low_and {x : Nat} (h : 0 < x) (hx : x < 4294967296) : ∃ k, x.testBit k = true ∧ x &&& (4294967296 - x) = 2 ^ k := by
  obtain ⟨k, h1, h2⟩ := low_bit x h
  refine ⟨k, h1, Nat.eq_of_testBit_eq fun i => ?_⟩
  rw [Nat.testBit_and, Nat.testBit_two_pow, show 4294967296 - x = 2 ^ 32 - ((x - 1) + 1) by omega, Nat.testBit_two_pow_sub_succ (by omega)]
  have := h2 i
  by_cases hi : i < 32
  · rw [decide_eq_true hi, Bool.true_and, this]
    simp [eq_comm]
  · have hz : x.testBit i = false := Nat.testBit_lt_two_pow (Nat.lt_of_lt_of_le (by omega : x < 2 ^ 32) (Nat.pow_le_pow_right (by decide) (by omega)))
    rw [hz] at this ⊢
    simp at this ⊢
    exact fun e => this e.symm
/-- A mask of one literal. -/
def lp (v : Int) : Nat := if 0 < v then 2 ^ (v - 1).toNat else 0
def lt1 (v : Int) : Nat := if 0 < v then 0 else 2 ^ (-v - 1).toNat
theorem lp_bit {v : Int} (h0 : v ≠ 0) (i : Nat) : (lp v).testBit i = decide (v = (i : Int) + 1) := by
  unfold lp
  split
  · rw [Nat.testBit_two_pow, Bool.eq_iff_iff, decide_eq_true_eq, decide_eq_true_eq]; omega
  · rw [Nat.zero_testBit, eq_comm, decide_eq_false_iff_not]; omega
theorem lt1_bit {v : Int} (h0 : v ≠ 0) (i : Nat) : (lt1 v).testBit i = decide (v = -((i : Int) + 1)) := by
  unfold lt1
  split
  · rw [Nat.zero_testBit, eq_comm, decide_eq_false_iff_not]; omega
  · rw [Nat.testBit_two_pow, Bool.eq_iff_iff, decide_eq_true_eq, decide_eq_true_eq]; omega
/-- Whether a literal stands in a clause. -/
theorem mask_in {c : List Int} {v : Int} (hz : ∀ x ∈ c, x ≠ 0) (h0 : v ≠ 0) : (bp c &&& lp v) ||| (bt c &&& lt1 v) = 0 ↔ v ∉ c := by
  constructor
  · intro e hv
    obtain ⟨i, hi⟩ : ∃ i : Nat, v = (i : Int) + 1 ∨ v = -((i : Int) + 1) := by
      rcases Int.lt_or_gt_of_ne h0 with h | h
      · exact ⟨(-v - 1).toNat, .inr (by omega)⟩
      · exact ⟨(v - 1).toNat, .inl (by omega)⟩
    have hb : ((bp c &&& lp v) ||| (bt c &&& lt1 v)).testBit i = true := by
      rw [Nat.testBit_or, Nat.testBit_and, Nat.testBit_and, bp_bit, bt_bit i c hz, lp_bit h0, lt1_bit h0]
      rcases hi with rfl | rfl
      · simp [hv]
      · simp [hv]
    rw [e, Nat.zero_testBit] at hb; cases hb
  · intro hv
    refine Nat.eq_of_testBit_eq fun i => ?_
    rw [Nat.zero_testBit, Nat.testBit_or, Nat.testBit_and, Nat.testBit_and, bp_bit, bt_bit i c hz, lp_bit h0, lt1_bit h0, Bool.or_eq_false_iff, Bool.and_eq_false_iff, Bool.and_eq_false_iff]
    refine ⟨?_, ?_⟩
    · by_cases e : v = (i : Int) + 1
      · left; rw [decide_eq_false_iff_not, ← e]; exact hv
      · right; exact decide_eq_false e
    · by_cases e : v = -((i : Int) + 1)
      · left; rw [decide_eq_false_iff_not, ← e]; exact hv
      · right; exact decide_eq_false e
theorem lit_lt {n : Nat} (hn : n ≤ 24) {v : Int} (ok : LOk n v) : lp v < 2 ^ 24 ∧ lt1 v < 2 ^ 24 := by
  unfold LOk at ok
  unfold lp lt1
  split
  · exact ⟨Nat.pow_lt_pow_right (by decide) (by omega), by decide⟩
  · exact ⟨by decide, Nat.pow_lt_pow_right (by decide) (by omega)⟩
theorem out_bit {a b i : Nat} (ha : a < 2 ^ 24) (hb : b < 2 ^ 24) : (a &&& (4294967295 - b)).testBit i = (a.testBit i && !b.testBit i) := by
  rw [Nat.testBit_and, show 4294967295 - b = 2 ^ 32 - (b + 1) by omega, Nat.testBit_two_pow_sub_succ (by omega)]
  by_cases hi : i < 32
  · rw [decide_eq_true hi, Bool.true_and]
  · have hz : a.testBit i = false := Nat.testBit_lt_two_pow (Nat.lt_of_lt_of_le (by omega : a < 2 ^ 32) (Nat.pow_le_pow_right (by decide) (by omega)))
    rw [hz]; rfl
/-- A clause without a literal's other way. -/
theorem bp_out {n : Nat} (hn : n ≤ 24) {c : List Int} {v : Int} (hz : ∀ x ∈ c, LOk n x) (ok : LOk n v) : bp c &&& (4294967295 - lt1 v) = bp (c.filter fun x => x != -v) := by
  refine Nat.eq_of_testBit_eq fun i => ?_
  rw [out_bit (bp_lt hn c hz) (lit_lt hn ok).2, bp_bit, bp_bit, lt1_bit ok.1, Bool.eq_iff_iff]
  simp only [Bool.and_eq_true, Bool.not_eq_true', decide_eq_true_eq, decide_eq_false_iff_not, List.mem_filter, bne_iff_ne]
  exact ⟨fun ⟨a, b⟩ => ⟨a, by omega⟩, fun ⟨a, b⟩ => ⟨a, by omega⟩⟩
theorem bt_out {n : Nat} (hn : n ≤ 24) {c : List Int} {v : Int} (hz : ∀ x ∈ c, LOk n x) (ok : LOk n v) : bt c &&& (4294967295 - lp v) = bt (c.filter fun x => x != -v) := by
  refine Nat.eq_of_testBit_eq fun i => ?_
  rw [out_bit (bt_lt hn c hz) (lit_lt hn ok).1, bt_bit i c (fun x hx => (hz x hx).1), bt_bit i _ (fun x hx => (hz x (List.mem_filter.1 hx).1).1), lp_bit ok.1, Bool.eq_iff_iff]
  simp only [Bool.and_eq_true, Bool.not_eq_true', decide_eq_true_eq, decide_eq_false_iff_not, List.mem_filter, bne_iff_ne]
  exact ⟨fun ⟨a, b⟩ => ⟨a, by omega⟩, fun ⟨a, b⟩ => ⟨a, by omega⟩⟩
/-! ### What is left of a formula -/
def rests (f : List (List Int)) (t : List Int) : List (List Int) := ((cls f).filter fun c => !(c.any fun x => wo t x == 1)).map fun c => c.filter fun x => wo t x == 0
theorem wo_zeros (n : Nat) (x : Int) : wo (List.replicate n 0) x = 0 := by
  have key : ∀ i : Nat, (List.replicate n (0 : Int))[i]?.getD 0 = 0 := fun i => by rw [List.getElem?_replicate]; split <;> rfl
  unfold wo; split
  · rw [key]; rfl
  · exact key _
theorem rests_zeros (f : List (List Int)) (n : Nat) : rests f (List.replicate n 0) = cls f := by
  unfold rests
  rw [List.filter_eq_self.2 fun c hc => by
    rw [Bool.not_eq_true', List.any_eq_false]
    intro x hx
    rw [wo_zeros]; decide]
  refine (List.map_congr_left fun c hc => ?_).trans (List.map_id _)
  exact List.filter_eq_self.2 fun x hx => by rw [wo_zeros]; rfl
section
variable {n : Nat} {f : List (List Int)} {t : List Int} {v : Int}
theorem up_one {t u : List Int} (h : Up t u) {x : Int} {y : Int} (h1 : wo t x = y) (hy : y ≠ 0) : wo u x = y := by rw [Up.wo h (by rw [h1]; exact hy), h1]
theorem set_one (ht : TV n t) (ok : LOk n v) (h0 : wo t v = 0) {x : Int} (hx : LOk n x) : wo (setL t v) x = 1 ↔ wo t x = 1 ∨ x = v :=
  ⟨fun h => (setL_other ht ok hx h0 h).symm, fun h => by
    rcases h with h | rfl
    · exact up_one (setL_up ht ok h0) h (by decide)
    · exact setL_one ht ok⟩
theorem set_zero (ht : TV n t) (ok : LOk n v) (h0 : wo t v = 0) {x : Int} (hx : LOk n x) : wo (setL t v) x = 0 ↔ wo t x = 0 ∧ x ≠ v ∧ x ≠ -v := by
  have hv := setL_one ht ok
  have htv := setL_tv ht ok
  constructor
  · intro h
    refine ⟨?_, fun e => ?_, fun e => ?_⟩
    · rcases wo_cases ht x with e | e | e
      · have := up_one (setL_up ht ok h0) e (by decide); omega
      · exact e
      · have := up_one (setL_up ht ok h0) e (by decide); omega
    · subst e; omega
    · subst e
      rw [wo_opp ok, hv] at h; omega
  · rintro ⟨h1, h2, h3⟩
    rcases wo_cases htv x with e | e | e
    · have e2 : wo (setL t v) (-x) = 1 := by rw [wo_opp hx, e]; rfl
      rcases setL_other ht ok hx.neg h0 e2 with e3 | e3
      · exact absurd (by omega) h3
      · rw [wo_opp hx, h1] at e3; omega
    · exact e
    · rcases setL_other ht ok hx h0 e with e3 | e3
      · exact absurd e3 h2
      · omega
theorem rests_set (ht : TV n t) (ok : LOk n v) (h0 : wo t v = 0) (okf : FOk n f) : rests f (setL t v) = ((rests f t).filter fun c => !(decide (v ∈ c))).map fun c => c.filter fun x => x != -v := by
  have okc := cls_ok okf
  unfold rests
  rw [List.filter_map, List.map_map, List.filter_filter]
  have e1 : ((cls f).filter fun c => !(c.any fun x => wo (setL t v) x == 1)) = (cls f).filter fun c => ((fun c => !(decide (v ∈ c))) ∘ fun c => c.filter fun x => wo t x == 0) c && !(c.any fun x => wo t x == 1) := by
    refine List.filter_congr fun c hc => ?_
    rw [Bool.eq_iff_iff]
    simp only [Function.comp, Bool.and_eq_true, Bool.not_eq_true', List.any_eq_false, decide_eq_false_iff_not, List.mem_filter, beq_iff_eq]
    constructor
    · intro h
      refine ⟨fun ⟨a, _⟩ => h v a (setL_one ht ok), fun x hx e => h x hx ((set_one ht ok h0 (okc c hc x hx)).2 (.inl e))⟩
    · rintro ⟨h1, h2⟩ x hx e
      rcases (set_one ht ok h0 (okc c hc x hx)).1 e with e | rfl
      · exact h2 x hx e
      · exact h1 ⟨hx, h0⟩
  rw [e1]
  refine List.map_congr_left fun c hc => ?_
  obtain ⟨hc, hp⟩ := List.mem_filter.1 hc
  simp only [Function.comp, Bool.and_eq_true, Bool.not_eq_true', decide_eq_false_iff_not, List.mem_filter, beq_iff_eq] at hp
  show _ = (c.filter fun x => wo t x == 0).filter _
  rw [List.filter_filter]
  refine List.filter_congr fun x hx => ?_
  rw [Bool.eq_iff_iff]
  simp only [Bool.and_eq_true, beq_iff_eq, bne_iff_ne]
  rw [set_zero ht ok h0 (okc c hc x hx)]
  exact ⟨fun ⟨a, b, d⟩ => ⟨d, a⟩, fun ⟨a, b⟩ => ⟨b, fun e => hp.1 ⟨e ▸ hx, h0⟩, a⟩⟩
theorem rests_lit (okf : FOk n f) {c : List Int} (hc : c ∈ rests f t) : ∀ x ∈ c, LOk n x ∧ wo t x = 0 := by
  intro x hx
  unfold rests at hc
  obtain ⟨d, hd, rfl⟩ := List.mem_map.1 hc
  obtain ⟨h1, h2⟩ := List.mem_filter.1 hx
  exact ⟨cls_ok okf d (List.mem_filter.1 hd).1 x h1, by simpa using h2⟩
/-- A clause of which nothing is left: there are no solutions. -/
theorem sols_gone (okf : FOk n f) (hn : n ≤ 65536) (ht : TV n t) (h : [] ∈ rests f t) : sols n f t = [] := by
  refine List.eq_nil_iff_forall_not_mem.2 fun bs hb => ?_
  obtain ⟨h1, h2, h3⟩ := mem_sols.1 hb
  unfold rests at h
  obtain ⟨d, hd, he⟩ := List.mem_map.1 h
  obtain ⟨hd, hno⟩ := List.mem_filter.1 hd
  have hd2 := hd
  unfold cls at hd
  obtain ⟨hd, _⟩ := List.mem_filter.1 hd
  obtain ⟨c, hc, rfl⟩ := List.mem_map.1 hd
  obtain ⟨x, hx, e⟩ := (eval_iff h1 okf hn).1 h2 c hc
  have hxr := (row_mems (okf c hc) hn x).2 hx
  rw [Bool.not_eq_true', List.any_eq_false] at hno
  have h4 := hno x hxr
  rcases wo_cases ht x with e2 | e2 | e2
  · rw [up_one h3 e2 (by decide)] at e; omega
  · have : x ∈ (row c).filter fun x => wo t x == 0 := List.mem_filter.2 ⟨hxr, by simpa using e2⟩
    rw [he] at this; cases this
  · rw [e2] at h4; exact h4 rfl
theorem count_set (ht : TV n t) (ok : LOk n v) (h0 : wo t v = 0) : (setL t v).count 0 + 1 = t.count 0 := by
  have h1 := wo_at ht ok
  rw [h0, Int.mul_zero] at h1
  obtain ⟨hl, e⟩ := List.getElem?_eq_some_iff.1 h1
  unfold setL
  rw [List.count_set hl, e]
  have hs : sg v ≠ 0 := by unfold sg; split <;> decide
  have hp : 0 < t.count 0 := List.count_pos_iff.2 (List.mem_of_getElem? h1)
  simp [hs]
  omega
/-- Nothing is asked for any more: all ways are solutions. -/
theorem sols_free (okf : FOk n f) (hn : n ≤ 65536) : ∀ (k : Nat) (t : List Int), TV n t → t.count 0 = k → rests f t = [] → (sols n f t).length = 2 ^ k := by
  intro k
  induction k with
  | zero =>
    intro t ht hz hr
    have : Rest f t := (cls_rest okf hn ht).1 fun c hc => by
      left
      unfold rests at hr
      rw [List.map_eq_nil_iff, List.filter_eq_nil_iff] at hr
      have := hr c hc
      rw [Bool.not_eq_true', Bool.not_eq_false, List.any_eq_true] at this
      obtain ⟨x, hx, e⟩ := this
      exact ⟨x, hx, by simpa using e⟩
    rw [sols_full ht hz okf hn this]; rfl
  | succ k ih =>
    intro t ht hz hr
    obtain ⟨i, hi⟩ := List.getElem?_of_mem (List.count_pos_iff.1 (show 0 < t.count 0 by omega))
    have hil := (List.getElem?_eq_some_iff.1 hi).1
    have ok : LOk n ((i : Int) + 1) := by have := ht.1; unfold LOk; omega
    have h0 : wo t ((i : Int) + 1) = 0 := by rw [wo_pos, hi]; rfl
    have h0' : wo t (-((i : Int) + 1)) = 0 := by rw [wo_opp ok, h0]; rfl
    rw [sols_both ht ok h0, ih _ (setL_tv ht ok) (by have := count_set ht ok h0; omega) (by rw [rests_set ht ok h0 okf, hr]; rfl), ih _ (setL_tv ht ok.neg) (by have := count_set ht ok.neg h0'; omega) (by rw [rests_set ht ok.neg h0' okf, hr]; rfl), Nat.pow_succ]
    omega
end
end Go.Proofs.YtpmdnbdmocdngaaGreat

namespace Go.Proofs.YtpmdnbdmocdngaaGreat
open Go.ChangeShapes Go.WideShapes Go.ChangeAt Go.RowKit
set_option linter.unusedVariables false
set_option linter.unusedSimpArgs false

/-- A clause as a mask's value. -/
abbrev mv (c : List Int) : Value := .agg #[.int .u32 (bp c : Int), .int .u32 (bt c : Int)]
/-- Masks as they are found. -/
def MskAt (τ : Nat → Nat) (w : World) (r : Nat) (A : Option Addr) (l : List (List Int)) : Prop := ∀ (i : Nat) (c : List Int), l[i]? = some c → ∃ g, A = some ⟨g, 0, none⟩ ∧ τ g = r ∧ w.cell? ⟨g, i * 2, none⟩ = some (.int .u32 (bp c : Int)) ∧ w.cell? ⟨g, i * 2 + 1, none⟩ = some (.int .u32 (bt c : Int)) ∧ g < w.heap.size
def mkCells (l : List (List Int)) : List Value := l.flatMap fun c => [.int .u32 (bp c : Int), .int .u32 (bt c : Int)]
section
variable {R : Nat → Prop} {τ τ' : Nat → Nat} {w w' : World} {r : Nat} {A : Option Addr} {l : List (List Int)}
theorem MskAt.step (h : MskAt τ w r A l) (k : Step R τ τ' w w') (hn : ¬ R r) : MskAt τ' w' r A l := fun i c hc => by
  obtain ⟨g, a, b, x, y, z⟩ := h i c hc
  have e : ∀ j, w'.cell? ⟨g, j, none⟩ = w.cell? ⟨g, j, none⟩ := fun j => World.cell?_of_block (k.kept.block g z (by rw [b]; exact hn))
  exact ⟨g, a, (k.tag g z).trans b, (e _).trans x, (e _).trans y, Nat.lt_of_lt_of_le z k.kept.size⟩
theorem mk_len (x : List Int) : ((fun c : List Int => [Value.int .u32 (bp c : Int), .int .u32 (bt c : Int)]) x).length = 2 := rfl
theorem MskAt.row {cap : Nat} (h : RowN τ r w 147 2 (.slice A l.length cap) l.length (mkCells l)) : MskAt τ w r A l := fun i c hc => by
  have hi := (List.getElem?_eq_some_iff.1 hc).1
  rcases h.at with ⟨_, h1⟩ | ⟨g, cap', cur, h0, hb, h1, h2, h3, h4⟩
  · omega
  · injection h0 with h0 _ _
    subst h0
    refine ⟨g, rfl, hb.2, ?_, ?_, hb.lt⟩
    · exact h.cell (u := .int .u32 (bp c : Int)) (i := i * 2 + 0) ((flat_at mk_len _ i 0 _ hc (by decide)).trans rfl)
    · exact h.cell (u := .int .u32 (bt c : Int)) (i := i * 2 + 1) ((flat_at mk_len _ i 1 _ hc (by decide)).trans rfl)
end
theorem pop_size : Lib.pop8tab.size = 256 := by decide +kernel
theorem pop_all : ∀ y : Fin 256, (Lib.pop8tab[y.val]'(by rw [pop_size]; exact y.isLt)).toNat ≤ 8 ∧ ((Lib.pop8tab[y.val]'(by rw [pop_size]; exact y.isLt)).toNat = 0 ↔ y.val = 0) := by decide +kernel
set_option maxRecDepth 100000 in
/-- How many bits there are: nought just where there is none. -/
theorem ones_any (x : Nat) (w : World) (hx : x < 4294967296) : Calls Tryz.prog 103 #[.int .u32 (x : Int)] w fun e w' => (∃ z : Int, e = .returned (.int .i64 z) ∧ 0 ≤ z ∧ z ≤ 32 ∧ (z = 0 ↔ x = 0)) ∧ Below w.heap.size w w' := by
  obtain ⟨y3, e3⟩ : ∃ y, (x : Int) / 16777216 = y := ⟨_, rfl⟩
  obtain ⟨y2, e2⟩ : ∃ y, bits .and .u32 ((x : Int) / 65536) 255 = y := ⟨_, rfl⟩
  obtain ⟨y1, e1⟩ : ∃ y, bits .and .u32 ((x : Int) / 256) 255 = y := ⟨_, rfl⟩
  obtain ⟨y0, e0⟩ : ∃ y, bits .and .u32 (x : Int) 255 = y := ⟨_, rfl⟩
  have h2 : bits .and .u32 ((x : Int) / 65536) 255 = (x : Int) / 65536 % 256 := bits_mask .u32 32 (by decide) (fun n h0 h1 => by rw [IntKind.wrap_u32']; omega) 8 (by decide) _ (by omega) (by omega)
  have h1 : bits .and .u32 ((x : Int) / 256) 255 = (x : Int) / 256 % 256 := bits_mask .u32 32 (by decide) (fun n h0 h1 => by rw [IntKind.wrap_u32']; omega) 8 (by decide) _ (by omega) (by omega)
  have h0 : bits .and .u32 (x : Int) 255 = (x : Int) % 256 := bits_mask .u32 32 (by decide) (fun n h0 h1 => by rw [IntKind.wrap_u32']; omega) 8 (by decide) _ (by omega) (by omega)
  have HX := Lib.hid (show (y3 = 0 ∧ y2 = 0 ∧ y1 = 0 ∧ y0 = 0 ↔ x = 0) by omega)
  have b3 : 0 ≤ y3 ∧ y3 < 256 := by omega
  have b2 : 0 ≤ y2 ∧ y2 < 256 := by omega
  have b1 : 0 ≤ y1 ∧ y1 < 256 := by omega
  have b0 : 0 ≤ y0 ∧ y0 < 256 := by omega
  clear h2 h1 h0 hx
  have hs := pop_size
  go_enter Tryz.func103, Tryz.ntmps103
  go_wp2_with fail
  go_region
  go_wp2_with fail
  go_ret
  have p3 := pop_all ⟨y3.toNat, by omega⟩
  have p2 := pop_all ⟨y2.toNat, by omega⟩
  have p1 := pop_all ⟨y1.toNat, by omega⟩
  have p0 := pop_all ⟨y0.toNat, by omega⟩
  simp only at p3 p2 p1 p0
  generalize (Lib.pop8tab[y3.toNat]'_).toNat = a3 at *
  generalize (Lib.pop8tab[y2.toNat]'_).toNat = a2 at *
  generalize (Lib.pop8tab[y1.toNat]'_).toNat = a1 at *
  generalize (Lib.pop8tab[y0.toNat]'_).toNat = a0 at *
  have hx := HX.out
  refine ⟨⟨((a3 : Int) + a2 + a1 + a0) % 256, rfl, by omega, by omega, ?_⟩, Below.draws (Below.refl _ _) _⟩
  rw [← hx]
  omega
section
variable {n : Nat} {c : List Int}
set_option maxHeartbeats 1600000 in
theorem size_any (hn : n ≤ 24) (hc : ∀ x ∈ c, LOk n x) (w : World) : Calls Tryz.prog 69 #[mv c] w fun e w' => (∃ z : Int, e = .returned (.int .i64 z) ∧ 0 ≤ z ∧ z ≤ 32 ∧ (z = 0 ↔ c = [])) ∧ Below w.heap.size w w' := by
  show Calls _ _ #[.agg #[.int .u32 (bp c : Int), .int .u32 (bt c : Int)]] _ _
  have hz := Lib.hid (bits_none hn hc)
  have a := bp_lt hn c hc
  have b := bt_lt hn c hc
  have ho : bp c ||| bt c < 2 ^ 24 := Nat.or_lt_two_pow a b
  have e1 : bits .or .u32 (bp c : Int) (bt c : Int) = ((bp c ||| bt c : Nat) : Int) := u32_or_nat _ _ (by omega) (by omega)
  have CO := Lib.hid (fun W => ones_any (bp c ||| bt c) W (by omega))
  generalize bp c ||| bt c = x at *
  generalize bp c = P at *
  generalize bt c = T at *
  clear a b ho hc
  go_enter Tryz.func69, Tryz.ntmps69
  go_wp2_with fail
  (with_reducible refine (CO.out _).mono ?_)
  rintro e w1 ⟨⟨z, rfl, z0, z1, z2⟩, b1⟩
  have HE := Lib.hid (show Below w.heap.size w w1 from Below.on (below_alloc w _) b1)
  have HZ := Lib.hid z2
  clear b1 z2 CO
  go_wp2_with fail
  go_ret
  exact ⟨⟨z, rfl, z0, z1, HZ.out.trans hz.out⟩, HE.out⟩
set_option maxHeartbeats 1600000 in
theorem lowest_any (hn : n ≤ 24) (hc : ∀ x ∈ c, LOk n x) (hne : c ≠ []) (w : World) : Calls Tryz.prog 70 #[mv c] w fun e w' => (∃ k : Nat, e = .returned (.int .u32 ((2 ^ k : Nat) : Int)) ∧ (bp c ||| bt c).testBit k = true) ∧ Below w.heap.size w w' := by
  show Calls _ _ #[.agg #[.int .u32 (bp c : Int), .int .u32 (bt c : Int)]] _ _
  have hz := bits_none hn hc
  have a := bp_lt hn c hc
  have b := bt_lt hn c hc
  have ho : bp c ||| bt c < 2 ^ 24 := Nat.or_lt_two_pow a b
  have e1 : bits .or .u32 (bp c : Int) (bt c : Int) = ((bp c ||| bt c : Nat) : Int) := u32_or_nat _ _ (by omega) (by omega)
  have hpos : 0 < bp c ||| bt c := Nat.pos_of_ne_zero fun e => hne (hz.1 e)
  obtain ⟨k, k1, k2⟩ := low_and hpos (by omega)
  have HK := Lib.hid k1
  have e2 : bits .and .u32 ((bp c ||| bt c : Nat) : Int) ((4294967296 - (bp c ||| bt c) : Nat) : Int) = ((2 ^ k : Nat) : Int) := by rw [u32_and_nat _ _ (by omega) (by omega), k2]
  have e3 : (-((bp c ||| bt c : Nat) : Int)) % 4294967296 = ((4294967296 - (bp c ||| bt c) : Nat) : Int) := by omega
  generalize bp c ||| bt c = x at *
  generalize bp c = P at *
  generalize bt c = T at *
  generalize 4294967296 - x = y at *
  obtain ⟨z, hzz⟩ : ∃ z : Int, ((2 ^ k : Nat) : Int) = z := ⟨_, rfl⟩
  have HZ := Lib.hid hzz
  rw [hzz] at e2
  clear a b ho hc k1 k2 hpos hz hzz
  go_enter Tryz.func70, Tryz.ntmps70
  go_wp2_with fail
  go_ret
  exact ⟨⟨k, by rw [HZ.out]; rfl, HK.out⟩, below_alloc w _⟩
end
end Go.Proofs.YtpmdnbdmocdngaaGreat

namespace Go.Proofs.YtpmdnbdmocdngaaGreat
open Go.ChangeShapes Go.WideShapes Go.ChangeAt Go.RowKit
set_option linter.unusedVariables false
set_option linter.unusedSimpArgs false

section
variable {n : Nat}
/-- The first of those that have the fewest literals: one of them. -/
def ShPost (l : List (List Int)) (w : World) (e : Ending) (w' : World) : Prop := (∃ c ∈ l, e = .returned (mv c)) ∧ Below w.heap.size w w'
set_option maxHeartbeats 1600000 in
theorem shortest_any {τ : Nat → Nat} {w : World} {r : Nat} {A : Option Addr} {l : List (List Int)} {cap : Nat} (hn : n ≤ 24) (hl : MskAt τ w r A l) (hok : ∀ c ∈ l, ∀ x ∈ c, LOk n x) (h0 : 0 < l.length) (hb : l.length ≤ 9223372036854775807) : Calls Tryz.prog 68 #[.slice A l.length cap] w (ShPost l w) := by
  obtain ⟨c0, hc0⟩ : ∃ c, l[0]? = some c := ⟨_, List.getElem?_eq_getElem h0⟩
  obtain ⟨g, rfl, _, x0, x1, z0⟩ := hl 0 c0 hc0
  have HL := Lib.hid (show ∀ (i : Nat) (c : List Int), l[i]? = some c → w.cell? ⟨g, i * 2, none⟩ = some (.int .u32 (bp c : Int)) ∧ w.cell? ⟨g, i * 2 + 1, none⟩ = some (.int .u32 (bt c : Int)) from fun i c hc => by
    obtain ⟨g', e, _, a, b, _⟩ := hl i c hc
    injection e with e; injection e with e
    subst e
    exact ⟨a, b⟩)
  have HM := Lib.hid (List.mem_of_getElem? hc0)
  have HOK := Lib.hid hok
  have x0 : w.cell? ⟨g, 0, none⟩ = some (.int .u32 (bp c0 : Int)) := x0
  have x1 : w.cell? ⟨g, 1, none⟩ = some (.int .u32 (bt c0 : Int)) := x1
  have b1 : (0 : Int) < (l.length : Int) := by omega
  clear hl hok hc0
  go_enter Tryz.func68, Tryz.ntmps68
  go_wp2_with fail
  go_loopw [11] (fun iv wr => ∃ (i : Nat) (c : List Int), i ≤ l.length ∧ iv = .int .i64 i ∧ Hid (c ∈ l ∧ HasB wr w.heap.size 147 #[.int .u32 0, .int .u32 0] ∧ HasB wr (w.heap.size + 1) 147 #[.int .u32 (bp c : Int), .int .u32 (bt c : Int)] ∧ Below w.heap.size w wr ∧ w.heap.size + 2 ≤ wr.heap.size)) (fun iv _ => l.length - (intOf iv).toNat)
  case atStart =>
    refine ⟨0, c0, Nat.zero_le _, rfl, HM.out, ?_, ?_, Below.plus (below_alloc w _) _, by simp⟩
    · show ((w.alloc _).alloc _).heap[w.heap.size]? = _
      rw [alloc_other (by simp)]; exact new_heap w _
    · show ((w.alloc _).alloc _).heap[w.heap.size + 1]? = _
      have := new_heap (w.alloc (.cells #[Value.int .u32 0, .int .u32 0] 147)) (.cells #[.int .u32 (bp c0 : Int), .int .u32 (bt c0 : Int)] 147)
      simpa using this
  case round =>
    obtain ⟨i, c, hi, rfl, R⟩ := hrel
    by_cases hlt : i < l.length
    · obtain ⟨c1, hc1⟩ : ∃ c, l[i]? = some c := ⟨_, List.getElem?_eq_getElem hlt⟩
      obtain ⟨y0, y1⟩ := HL.out i c1 hc1
      have y0 : wr.cell? ⟨g, i * 2, none⟩ = some (.int .u32 (bp c1 : Int)) := (R.out.2.2.2.1.cell (p := ⟨g, i * 2, none⟩) z0).trans y0
      have y1 : wr.cell? ⟨g, i * 2 + 1, none⟩ = some (.int .u32 (bt c1 : Int)) := (R.out.2.2.2.1.cell (p := ⟨g, i * 2 + 1, none⟩) z0).trans y1
      have HC1 := Lib.hid (List.mem_of_getElem? hc1)
      have b2 : (0 : Int) ≤ (i : Int) := by omega
      have b3 : (i : Int) < (l.length : Int) := by omega
      clear hc1
      have CS1 := Lib.hid (fun W => show Calls Tryz.prog 69 #[.agg #[.int .u32 (bp c1 : Int), .int .u32 (bt c1 : Int)]] W _ from size_any hn (HOK.out c1 HC1.out) W)
      have CS3 := Lib.hid (fun W => show Calls Tryz.prog 69 #[.agg #[.int .u32 (bp c : Int), .int .u32 (bt c : Int)]] W _ from size_any hn (HOK.out c R.out.1) W)
      go_wp2_with fail
      obtain ⟨W1, hW1⟩ : ∃ W1, W1 = wr.alloc (.cells #[.int .u32 (bp c1 : Int), .int .u32 (bt c1 : Int)] 147) := ⟨_, rfl⟩
      rw [← hW1]
      have H5 : HasB W1 wr.heap.size 147 #[.int .u32 (bp c1 : Int), .int .u32 (bt c1 : Int)] := by rw [hW1]; exact new_heap wr _
      have hbw : Below wr.heap.size wr W1 := by rw [hW1]; exact below_alloc wr _
      have H3 : HasB W1 (w.heap.size + 1) 147 #[.int .u32 (bp c : Int), .int .u32 (bt c : Int)] := (hbw.block _ (by have := R.out.2.2.2.2; omega)).trans R.out.2.2.1
      have H2 : HasB W1 w.heap.size 147 #[.int .u32 0, .int .u32 0] := (hbw.block _ (by have := R.out.2.2.2.2; omega)).trans R.out.2.1
      have hsz : W1.heap.size = wr.heap.size + 1 := by rw [hW1]; simp
      have HBW := Lib.hid (Below.on R.out.2.2.2.1 hbw)
      have HW := Lib.hid (And.intro H5 (And.intro H3 (And.intro H2 hsz)))
      have hs2 := R.out.2.2.2.2
      obtain ⟨a5, ha5⟩ : ∃ a, wr.heap.size = a := ⟨_, rfl⟩
      obtain ⟨a3, ha3⟩ : ∃ a, w.heap.size + 1 = a := ⟨_, rfl⟩
      rw [ha5] at H5 HW hsz hs2 ⊢
      rw [ha3] at H3 HW ⊢
      have z5 : a5 < W1.drew.heap.size := by show a5 < W1.heap.size; omega
      have z3 : a3 < W1.drew.heap.size := by show a3 < W1.heap.size; omega
      have k5a : W1.drew.cell? ⟨a5, 0, none⟩ = some (.int .u32 (bp c1 : Int)) := H5.cell 0
      have k5b : W1.drew.cell? ⟨a5, 1, none⟩ = some (.int .u32 (bt c1 : Int)) := H5.cell 1
      have k3a : W1.drew.cell? ⟨a3, 0, none⟩ = some (.int .u32 (bp c : Int)) := H3.cell 0
      have k3b : W1.drew.cell? ⟨a3, 1, none⟩ = some (.int .u32 (bt c : Int)) := H3.cell 1
      have B1 : Hid (Below W1.heap.size W1 W1.drew) := Below.draws (Below.refl _ _) 1
      clear hW1 ha5 hbw H5 H3 H2 y0 y1 x0 x1
      go_region_held3 (fun w' => w'.cell? ⟨a5, 0, none⟩ = some (.int .u32 (bp c1 : Int)) ∧ w'.cell? ⟨a5, 1, none⟩ = some (.int .u32 (bt c1 : Int)) ∧ w'.cell? ⟨a3, 0, none⟩ = some (.int .u32 (bp c : Int)) ∧ w'.cell? ⟨a3, 1, none⟩ = some (.int .u32 (bt c : Int))) (first | go_keep | (exact ⟨by assumption, by assumption, by assumption, by assumption⟩)) ((go_at_call 69; (first | (with_reducible refine (CS1.out _).mono ?_) | (with_reducible refine (CS3.out _).mono ?_)); rintro e we ⟨⟨zz, rfl, _, _, _⟩, hbw⟩; have B1 := Lib.hid (Below.on B1.out hbw); have j5a := (hbw.cell (p := ⟨a5, 0, none⟩) (by assumption)).trans (by assumption); have j5b := (hbw.cell (p := ⟨a5, 1, none⟩) (by assumption)).trans (by assumption); have j3a := (hbw.cell (p := ⟨a3, 0, none⟩) (by assumption)).trans (by assumption); have j3b := (hbw.cell (p := ⟨a3, 1, none⟩) (by assumption)).trans (by assumption); have z5 : a5 < we.heap.size := Nat.lt_of_lt_of_le (by assumption) hbw.size; have z3 : a3 < we.heap.size := Nat.lt_of_lt_of_le (by assumption) hbw.size; clear hbw))
      have H3w : HasB we a3 147 #[.int .u32 (bp c : Int), .int .u32 (bt c : Int)] := (B1.out.block a3 (by omega)).trans HW.out.2.1
      have f3a := H3w.free 0
      have f3b := H3w.free 1
      have HH3 := Lib.hid H3w
      clear H3w
      go_wp2_with fail
      · subst ha3
        go_roundw
        case rel =>
          have hb2 : HasB we w.heap.size 147 #[.int .u32 0, .int .u32 0] := (B1.out.block _ (by omega)).trans HW.out.2.2.1
          have hbb : Below w.heap.size w we := Below.on HBW.out B1.out
          have hb3 := (HH3.out.put 0 (.int .u32 (bp c1 : Int))).put 1 (.int .u32 (bt c1 : Int))
          refine ⟨i + 1, c1, by omega, by go_num, HC1.out, ?_, hb3, (hbb.setCell (Nat.le_succ _) _).setCell (Nat.le_succ _) _, by have := B1.out.size; simp; omega⟩
          exact (set_other (by show w.heap.size ≠ w.heap.size + 1; omega)).trans ((set_other (by show w.heap.size ≠ w.heap.size + 1; omega)).trans hb2)
        case measure => simp [intOf]; omega
      · subst ha3
        go_roundw
        case rel =>
          exact ⟨i + 1, c, by omega, by go_num, R.out.1, (B1.out.block _ (by omega)).trans HW.out.2.2.1, (B1.out.block _ (by omega)).trans HW.out.2.1, Below.on HBW.out B1.out, by have := B1.out.size; omega⟩
        case measure => simp [intOf]; omega
    · obtain rfl : i = l.length := by omega
      have k3a := R.out.2.2.1.cell 0
      have k3b := R.out.2.2.1.cell 1
      have k2a := R.out.2.1.cell 0
      have k2b := R.out.2.1.cell 1
      have f2a := R.out.2.1.free 0
      have f2b := R.out.2.1.free 1
      have t0 := (R.out.2.1.put 0 (.int .u32 (bp c : Int))).put 1 (.int .u32 (bt c : Int))
      have T0 := Lib.hid (show ((wr.setCell ⟨w.heap.size, 0, none⟩ (.int .u32 (bp c : Int))).setCell ⟨w.heap.size, 1, none⟩ (.int .u32 (bt c : Int))).heap[w.heap.size]? = some (.cells #[.int .u32 (bp c : Int), .int .u32 (bt c : Int)] 147 (0, 0)) from t0)
      clear t0 x0 x1
      go_wp2_with fail
      refine bodyPost_ret (results_cell_row rfl _ _ w.heap.size _ _ _ _ rfl T0.out Tryz.underlying147 rfl (by kernel_rfl)) rfl ?_
      exact ⟨⟨c, R.out.1, rfl⟩, (R.out.2.2.2.1.setCell (Nat.le_refl _) _).setCell (Nat.le_refl _) _⟩
end
end Go.Proofs.YtpmdnbdmocdngaaGreat
