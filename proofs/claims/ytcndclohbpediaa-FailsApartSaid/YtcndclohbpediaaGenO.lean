/-
  Arguments opened: a slice of whatever elements; bytes.
-/
import Derived.Test.YtcndclohbpediaaGenW
namespace Go.Proofs.Ytcndclohbpediaa
open Go.ChangeShapes Go.WideShapes Go.ChangeAt Go.RowKit Go.Joins
set_option linter.unusedVariables false

section
variable {H : Type} {enc : TypeId × Value → H} {W : World}
theorem spotted {g off : Nat} {s : Nat} {v : Value} (h : W.cell? ⟨g, off, some s⟩ = some v) : False := by
  unfold World.cell? at h
  split at h
  · simp at h
  · cases h
/-- A slice of elements of so many cells, each of which is a z as Q says. -/
theorem slice_open {α : Type} {t e : TypeId} {sz : Nat} (Q : α → List Value → Prop) (ht : Try.prog.underlying t = some (.slice e)) (hc : Try.prog.cellsOf e = sz) (h0 : 0 < sz)
    (hel : ∀ (n : Nat) (cs : List Value) (x : DataW H × List MemPlace), DataW.trod enc Try.prog W 0 (fun _ => true) true n e cs = some x → cs.length = sz ∧ ∃ z, Q z cs)
    {n : Nat} {v : Value} {x : DataW H × List MemPlace} (h : DataW.trod enc Try.prog W 0 (fun _ => true) true n t [v] = some x) :
    ∃ (A : Option Addr) (L : List α) (cap : Nat), v = .slice A L.length cap ∧ L.length ≤ cap ∧ cap ≤ 9223372036854775807 ∧ (A = none → cap = 0) ∧
      ∀ (i : Nat) (z : α), L[i]? = some z → ∃ cs, Q z cs ∧ cs.length = sz ∧ ∃ g off, A = some ⟨g, off, none⟩ ∧ g < W.heap.size ∧ ∀ (j : Nat) (c : Value), cs[j]? = some c → W.cell? ⟨g, off + i * sz + j, none⟩ = some c := by
  rcases Deep.open_slice ht h with ⟨h1, _⟩ | ⟨a, len, cap, m, n, D, Pl, h1, _, hle, hm, hmm, _, hi⟩
  · injection h1 with h1 _
    subst h1
    exact ⟨none, [], 0, rfl, Nat.le_refl _, Nat.zero_le _, fun _ => rfl, fun i z hz => by simp at hz⟩
  · injection h1 with h1 _
    subst h1
    rw [if_pos rfl] at hmm
    subst hmm
    unfold maxLen at hm
    have each : ∀ i : Nat, i < len → ∃ z cs, Q z cs ∧ cs.length = sz ∧ ∀ (j : Nat) (c : Value), cs[j]? = some c → W.cell? ((a.add (i * sz)).add j) = some c := fun i him => by
      obtain ⟨cs', hcs, ht'⟩ := hi i (by omega)
      obtain ⟨hl, z, hz⟩ := hel _ _ _ ht'
      rw [hc] at hcs
      have k := (World.cells?_some hcs).2.2
      refine ⟨z, cs', hz, hl, fun j c hj => ?_⟩
      have hj' := (List.getElem?_eq_some_iff.1 hj).1
      have := k j (by omega)
      rw [this]
      exact hj
    obtain ⟨L, hL, hLs⟩ : ∃ L : List α, L.length = len ∧ ∀ (i : Nat) (z : α), L[i]? = some z → ∃ cs, Q z cs ∧ cs.length = sz ∧ ∀ (j : Nat) (c : Value), cs[j]? = some c → W.cell? ((a.add (i * sz)).add j) = some c := by
      have key : ∀ k, k ≤ len → ∃ L : List α, L.length = k ∧ ∀ (i : Nat) (z : α), L[i]? = some z → ∃ cs, Q z cs ∧ cs.length = sz ∧ ∀ (j : Nat) (c : Value), cs[j]? = some c → W.cell? ((a.add (i * sz)).add j) = some c := by
        intro k
        induction k with
        | zero => intro _; exact ⟨[], rfl, fun i r hr => by simp at hr⟩
        | succ k ih =>
          intro hk
          obtain ⟨rs, h1, h2⟩ := ih (by omega)
          obtain ⟨r, h3⟩ := each k (by omega)
          refine ⟨rs ++ [r], by simp [h1], fun i q hq => ?_⟩
          by_cases hlt : i < rs.length
          · rw [List.getElem?_append_left hlt] at hq; exact h2 i q hq
          · rw [List.getElem?_append_right (by omega)] at hq
            have : i - rs.length = 0 := by
              have := (List.getElem?_eq_some_iff.1 hq).1
              simp at this; omega
            rw [this] at hq
            simp at hq
            subst hq
            obtain rfl : i = k := by omega
            exact h3
      exact key len (Nat.le_refl _)
    subst hL
    refine ⟨some a, L, _, rfl, hle, by omega, fun e => (by cases e), fun i z hz => ?_⟩
    obtain ⟨cs, hQ, hl, hcell⟩ := hLs i z hz
    refine ⟨cs, hQ, hl, ?_⟩
    obtain ⟨g, off, spot⟩ := a
    obtain ⟨c0, hc0⟩ : ∃ c0, cs[0]? = some c0 := ⟨_, List.getElem?_eq_getElem (by omega)⟩
    cases spot with
    | some s =>
      exfalso
      have hi0 := (List.getElem?_eq_some_iff.1 hz).1
      obtain ⟨z0, hz0⟩ : ∃ z0, L[0]? = some z0 := ⟨_, List.getElem?_eq_getElem (by omega)⟩
      obtain ⟨cs0, _, hl0, hc00⟩ := hLs 0 z0 hz0
      obtain ⟨d0, hd0⟩ : ∃ d0, cs0[0]? = some d0 := ⟨_, List.getElem?_eq_getElem (by omega)⟩
      have := hc00 0 d0 hd0
      rw [Nat.zero_mul] at this
      exact spotted this
    | none =>
      refine ⟨g, off, rfl, ?_, fun j c hj => ?_⟩
      · have := hcell 0 c0 hc0
        rw [add_eq, add_eq] at this
        exact World.block_lt_of_cell? W _ this
      · have := hcell j c hj
        rw [add_eq, add_eq] at this
        exact this
theorem cellsByte : Try.prog.cellsOf 5 = 1 := by kernel_rfl
theorem byte_nat {c : Value} {n : Nat} {x : DataW H × List MemPlace} (h : DataW.trod enc Try.prog W 0 (fun _ => true) true n 5 [c] = some x) : ∃ z : Nat, c = .int .u8 (z : Int) ∧ z ≤ 255 := by
  obtain ⟨z, e, _, w⟩ := DataW.trod_int Try.underlying5 h
  have := bounds_u8 w
  injection e with e _
  exact ⟨z.toNat, by rw [e]; congr 1; omega, by omega⟩
end
end Go.Proofs.Ytcndclohbpediaa
