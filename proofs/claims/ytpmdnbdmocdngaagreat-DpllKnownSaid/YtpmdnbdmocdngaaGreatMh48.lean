/-
  Parts of the proof, joined: DpllPg.
-/
import Derived.Test.YtpmdnbdmocdngaaGreatMh40
import Derived.Test.YtpmdnbdmocdngaaGreatMh08

namespace Go.Proofs.YtpmdnbdmocdngaaGreat
open Go.RowKit
set_option linter.unusedVariables false

/-- Pigeon i is in one of the holes; two are not in one. -/
def pgO (m i : Nat) : Nat → List Int
  | 0 => []
  | t + 1 => pgO m i t ++ [((i * m + t + 1 : Nat) : Int)]
def pgTwo (m i k t : Nat) : List Int := [-((i * m + t + 1 : Nat) : Int), -((k * m + t + 1 : Nat) : Int)]
def pgRow (m i k : Nat) : Nat → List (List Int)
  | 0 => []
  | t + 1 => pgRow m i k t ++ [pgTwo m i k t]
def pgRows (m i : Nat) : Nat → List (List Int)
  | 0 => []
  | k + 1 => pgRows m i k ++ pgRow m i k m
def pg (m : Nat) : Nat → List (List Int)
  | 0 => []
  | i + 1 => (pg m i ++ [pgO m i m]) ++ pgRows m i i
theorem pgO_len (m i : Nat) : ∀ t, (pgO m i t).length = t
  | 0 => rfl
  | t + 1 => by show (pgO m i t ++ _).length = _; rw [List.length_append, pgO_len m i t]; rfl
theorem pgRow_len (m i k : Nat) : ∀ t, (pgRow m i k t).length = t
  | 0 => rfl
  | t + 1 => by show (pgRow m i k t ++ _).length = _; rw [List.length_append, pgRow_len m i k t]; rfl
theorem pgRows_len (m i : Nat) : ∀ k, (pgRows m i k).length = k * m
  | 0 => by simp [pgRows]
  | k + 1 => by show (pgRows m i k ++ _).length = _; rw [List.length_append, pgRows_len m i k, pgRow_len, Nat.succ_mul]
theorem mem_pgO {m i : Nat} {x : Int} : ∀ {t : Nat}, x ∈ pgO m i t ↔ ∃ s, s < t ∧ x = ((i * m + s + 1 : Nat) : Int)
  | 0 => by simp [pgO]
  | t + 1 => by
    show x ∈ pgO m i t ++ _ ↔ _
    rw [List.mem_append, mem_pgO (t := t), List.mem_singleton]
    constructor
    · rintro (⟨s, h, e⟩ | e)
      · exact ⟨s, by omega, e⟩
      · exact ⟨t, by omega, e⟩
    · rintro ⟨s, h, e⟩
      by_cases hs : s = t
      · subst hs; exact .inr e
      · exact .inl ⟨s, by omega, e⟩
theorem mem_pgRow {m i k : Nat} {c : List Int} : ∀ {t : Nat}, c ∈ pgRow m i k t ↔ ∃ s, s < t ∧ c = pgTwo m i k s
  | 0 => by simp [pgRow]
  | t + 1 => by
    show c ∈ pgRow m i k t ++ _ ↔ _
    rw [List.mem_append, mem_pgRow (t := t), List.mem_singleton]
    constructor
    · rintro (⟨s, h, e⟩ | e)
      · exact ⟨s, by omega, e⟩
      · exact ⟨t, by omega, e⟩
    · rintro ⟨s, h, e⟩
      by_cases hs : s = t
      · subst hs; exact .inr e
      · exact .inl ⟨s, by omega, e⟩
theorem mem_pgRows {m i : Nat} {c : List Int} : ∀ {k : Nat}, c ∈ pgRows m i k ↔ ∃ j, j < k ∧ ∃ s, s < m ∧ c = pgTwo m i j s
  | 0 => by simp [pgRows]
  | k + 1 => by
    show c ∈ pgRows m i k ++ _ ↔ _
    rw [List.mem_append, mem_pgRows (k := k), mem_pgRow]
    constructor
    · rintro (⟨s, h, e⟩ | e)
      · exact ⟨s, by omega, e⟩
      · exact ⟨k, by omega, e⟩
    · rintro ⟨s, h, e⟩
      by_cases hs : s = k
      · subst hs; exact .inr e
      · exact .inl ⟨s, by omega, e⟩
theorem mem_pg {m : Nat} {c : List Int} : ∀ {n : Nat}, c ∈ pg m n ↔ ∃ i, i < n ∧ (c = pgO m i m ∨ ∃ j, j < i ∧ ∃ s, s < m ∧ c = pgTwo m i j s)
  | 0 => by simp [pg]
  | n + 1 => by
    show c ∈ (pg m n ++ _) ++ _ ↔ _
    rw [List.mem_append, List.mem_append, mem_pg (n := n), mem_pgRows, List.mem_singleton]
    constructor
    · rintro ((⟨i, h, e⟩ | e) | e)
      · exact ⟨i, by omega, e⟩
      · exact ⟨n, by omega, .inl e⟩
      · exact ⟨n, by omega, .inr e⟩
    · rintro ⟨i, h, e⟩
      by_cases hs : i = n
      · subst hs
        rcases e with e | e
        · exact .inl (.inr e)
        · exact .inr e
      · exact .inl (.inl ⟨i, by omega, e⟩)
theorem pg_pos {m n i s : Nat} (hi : i < n) (hs : s < m) : i * m + s + 1 ≤ n * m := by
  have : (i + 1) * m ≤ n * m := Nat.mul_le_mul_right _ hi
  rw [Nat.succ_mul] at this; omega
theorem pg_ok (m n : Nat) : FOk (n * m) (pg m n) := fun c hc l hl => by
  obtain ⟨i, hi, rfl | ⟨j, hj, s, hs, rfl⟩⟩ := mem_pg.1 hc
  · obtain ⟨s, hs, rfl⟩ := mem_pgO.1 hl
    have := pg_pos hi hs
    unfold LOk; omega
  · have h1 := pg_pos hi hs
    have h2 := pg_pos (Nat.lt_trans hj hi) hs
    unfold pgTwo at hl
    simp only [List.mem_cons, List.not_mem_nil, or_false] at hl
    unfold LOk
    rcases hl with rfl | rfl <;> omega
/-- More pigeons than holes: there is no way. -/
theorem pg_le {m n : Nat} (hN : n * m ≤ 65536) {bs : List Bool} (hb : bs.length = n * m) (h : evalM bs (pg m n) = true) : n ≤ m := by
  have H := (eval_iff hb (pg_ok m n) hN).1 h
  have one : ∀ i, i < n → ∃ t, t < m ∧ wo (uOf bs) ((i * m + t + 1 : Nat) : Int) = 1 := fun i hi => by
    obtain ⟨x, hx, h1⟩ := H _ (mem_pg.2 ⟨i, hi, .inl rfl⟩)
    obtain ⟨t, ht, rfl⟩ := mem_pgO.1 hx
    exact ⟨t, ht, h1⟩
  have two : ∀ i k t, i < n → k < i → t < m → wo (uOf bs) ((i * m + t + 1 : Nat) : Int) = 1 → wo (uOf bs) ((k * m + t + 1 : Nat) : Int) = 1 → False := fun i k t hi hk ht h1 h2 => by
    obtain ⟨x, hx, h3⟩ := H _ (mem_pg.2 ⟨i, hi, .inr ⟨k, hk, t, ht, rfl⟩⟩)
    have o1 : LOk (n * m) ((i * m + t + 1 : Nat) : Int) := by have := pg_pos hi ht; unfold LOk; omega
    have o2 : LOk (n * m) ((k * m + t + 1 : Nat) : Int) := by have := pg_pos (Nat.lt_trans hk hi) ht; unfold LOk; omega
    unfold pgTwo at hx
    simp only [List.mem_cons, List.not_mem_nil, or_false] at hx
    rcases hx with rfl | rfl
    · rw [wo_opp o1, h1] at h3; cases h3
    · rw [wo_opp o2, h2] at h3; cases h3
  have hex : ∃ t : Nat → Nat, ∀ i, i < n → t i < m ∧ wo (uOf bs) ((i * m + t i + 1 : Nat) : Int) = 1 :=
    ⟨fun i => if hi : i < n then (one i hi).choose else 0, fun i hi => by simp only [dif_pos hi]; exact (one i hi).choose_spec⟩
  obtain ⟨t, ht⟩ := hex
  have nd : ((List.range n).map t).Nodup := by
    unfold List.Nodup
    rw [List.pairwise_map]
    refine List.Pairwise.imp_of_mem (fun {a b} ha hb hab e => ?_) List.pairwise_lt_range
    have ha := List.mem_range.1 ha
    have hb := List.mem_range.1 hb
    have h1 := (ht a ha).2
    rw [e] at h1
    exact two b a (t b) hb hab (ht b hb).1 (ht b hb).2 h1
  have := nodup_le m _ nd fun z hz => by
    obtain ⟨i, hi, rfl⟩ := List.mem_map.1 hz
    exact (ht i (List.mem_range.1 hi)).1
  simpa using this
/-- Holes enough: each has one of its own. -/
def pgSol (m n : Nat) : List Bool := (List.range (n * m)).map fun j => j / m == j % m
theorem pg_sol : ∀ m, m < 5 → ∀ n, n < 6 → n ≤ m → evalM (pgSol m n) (pg m n) = true := by decide +kernel
theorem pgSol_len (m n : Nat) : (pgSol m n).length = n * m := by simp [pgSol]
end Go.Proofs.YtpmdnbdmocdngaaGreat
