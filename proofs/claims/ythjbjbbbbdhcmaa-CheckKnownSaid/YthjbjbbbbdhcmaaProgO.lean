/-
  Stage 10's arguments, opened: a program by value: a slice of instructions, a slice of names.
-/
import Derived.Test.YthjbjbbbbdhcmaaProgM
namespace Go.Proofs.Ythjbjbbbbdhcmaa
open Go.ChangeShapes Go.WideShapes Go.ChangeAt Go.RowKit Go.Joins
set_option linter.unusedVariables false

theorem cellsProg : Try.prog.cellsOf 25 = 2 := by kernel_rfl
theorem cellsInst : Try.prog.cellsOf 38 = 2 := by kernel_rfl
theorem cellsStr : Try.prog.cellsOf 9 = 1 := by kernel_rfl
theorem cellsInt' : Try.prog.cellsOf 3 = 1 := by kernel_rfl
section
variable {H : Type} {enc : TypeId × Value → H} {W : World}
theorem inst_open {n : Nat} {cs : List Value} {x : DataW H × List MemPlace} (h : DataW.trod enc Try.prog W 0 (fun _ => true) true n 38 cs = some x) :
    ∃ z : Int × Int, cs = [.int .i64 z.1, .int .i64 z.2] ∧ (Lit.int .i64 z.1).wf = true ∧ (Lit.int .i64 z.2).wf = true := by
  obtain ⟨y0, y1, n', _, hlen, h0, h1⟩ := trod_struct2 Try.underlying38 h
  rw [cellsInst] at hlen
  match cs, hlen with
  | [c0, c1], _ =>
    have f0 : DataW.trod enc Try.prog W 0 (fun _ => true) true n' 3 (([c0, c1].drop 0).take (Try.prog.cellsOf 3)) = some y0 := h0
    have f1 : DataW.trod enc Try.prog W 0 (fun _ => true) true n' 3 (([c0, c1].drop 1).take (Try.prog.cellsOf 3)) = some y1 := h1
    rw [cellsInt'] at f0 f1
    obtain ⟨z0, e0, _, w0⟩ := DataW.trod_int Try.underlying3 f0
    obtain ⟨z1, e1, _, w1⟩ := DataW.trod_int Try.underlying3 f1
    simp at e0 e1
    subst e0 e1
    exact ⟨(z0, z1), rfl, w0, w1⟩
theorem add_eq (g off k : Nat) : ((⟨g, off, none⟩ : Addr).add k) = ⟨g, off + k, none⟩ := by
  unfold Addr.add
  split
  · rename_i h0; subst h0; rfl
  · rfl
theorem spotted {g off : Nat} {s : Nat} {v : Value} (h : W.cell? ⟨g, off, some s⟩ = some v) : False := by
  unfold World.cell? at h
  split at h
  · simp at h
  · cases h
theorem insts_open {n : Nat} {v : Value} {x : DataW H × List MemPlace} (h : DataW.trod enc Try.prog W 0 (fun _ => true) true n 22 [v] = some x) :
    ∃ (A : Option Addr) (L : List (Int × Int)) (cap : Nat), v = .slice A L.length cap ∧ L.length ≤ cap ∧ cap ≤ 9223372036854775807 ∧ InstAt W A L ∧ ∀ x ∈ L, (Lit.int .i64 x.1).wf = true ∧ (Lit.int .i64 x.2).wf = true := by
  rcases Deep.open_slice Try.underlying22 h with ⟨h0, _⟩ | ⟨a, len, cap, m, n, D, Pl, h1, _, hle, hm, hmm, _, hi⟩
  · injection h0 with h0 _
    subst h0
    exact ⟨none, [], 0, rfl, Nat.le_refl _, Nat.zero_le _, (fun i x hx => by simp at hx), fun x hx => by cases hx⟩
  · injection h1 with h1 _
    subst h1
    rw [if_pos rfl] at hmm
    subst hmm
    unfold maxLen at hm
    have each : ∀ i : Nat, i < len → ∃ z : Int × Int, ((Lit.int .i64 z.1).wf = true ∧ (Lit.int .i64 z.2).wf = true) ∧ W.cell? ((a.add (i * 2)).add 0) = some (.int .i64 z.1) ∧ W.cell? ((a.add (i * 2)).add 1) = some (.int .i64 z.2) := fun i him => by
      obtain ⟨cs', hc, ht⟩ := hi i (by omega)
      obtain ⟨z, rfl, hz⟩ := inst_open ht
      rw [cellsInst] at hc
      have k := (World.cells?_some hc).2.2
      exact ⟨z, hz, k 0 (by decide), k 1 (by decide)⟩
    obtain ⟨L, hL, hLs⟩ : ∃ L : List (Int × Int), L.length = len ∧ ∀ (i : Nat) (z : Int × Int), L[i]? = some z → ((Lit.int .i64 z.1).wf = true ∧ (Lit.int .i64 z.2).wf = true) ∧ W.cell? ((a.add (i * 2)).add 0) = some (.int .i64 z.1) ∧ W.cell? ((a.add (i * 2)).add 1) = some (.int .i64 z.2) := by
      have key : ∀ k, k ≤ len → ∃ L : List (Int × Int), L.length = k ∧ ∀ (i : Nat) (z : Int × Int), L[i]? = some z → ((Lit.int .i64 z.1).wf = true ∧ (Lit.int .i64 z.2).wf = true) ∧ W.cell? ((a.add (i * 2)).add 0) = some (.int .i64 z.1) ∧ W.cell? ((a.add (i * 2)).add 1) = some (.int .i64 z.2) := by
        intro k
        induction k with
        | zero => intro _; exact ⟨[], rfl, fun i r hr => by simp at hr⟩
        | succ k ih =>
          intro hk
          obtain ⟨rs, h1, h2⟩ := ih (by omega)
          obtain ⟨r, h3⟩ := each k (by omega)
          refine ⟨rs ++ [r], by simp [h1], fun i q hq => ?_⟩
          by_cases hlt : i < rs.length
          · rw [List.getElem?_append_left hlt] at hq; exact h2 i q hq
          · rw [List.getElem?_append_right (by omega)] at hq
            have : i - rs.length = 0 := by
              have := (List.getElem?_eq_some_iff.1 hq).1
              simp at this; omega
            rw [this] at hq
            simp at hq
            subst hq
            obtain rfl : i = k := by omega
            exact h3
      exact key len (Nat.le_refl _)
    subst hL
    refine ⟨some a, L, _, rfl, hle, by omega, fun i z hz => ?_, fun z hz => ?_⟩
    · obtain ⟨_, k0, k1⟩ := hLs i z hz
      obtain ⟨g, off, spot⟩ := a
      cases spot with
      | some s =>
        exfalso
        have hi0 := (List.getElem?_eq_some_iff.1 hz).1
        obtain ⟨z0, hz0⟩ : ∃ z0, L[0]? = some z0 := ⟨_, List.getElem?_eq_getElem (by omega)⟩
        have k2 := (hLs 0 z0 hz0).2.1
        exact spotted k2
      | none =>
        rw [add_eq, add_eq] at k0 k1
        exact ⟨g, off, rfl, World.block_lt_of_cell? W _ k0, k0, k1⟩
    · obtain ⟨i, hi⟩ := List.getElem?_of_mem hz
      exact (hLs i z hi).1
theorem strs_weights {P : Program} {e : TypeId} : ∀ (ss : List ByteArray) (s : ByteArray), s ∈ ss → s.size ∈ DataW.weightsAll P e (strs (H := H) ss)
  | [], s, h => by cases h
  | a :: r, s, h => by
    have e1 : DataW.weightsAll P e (strs (H := H) (a :: r)) = a.data.toList.length :: DataW.weightsAll P e (strs (H := H) r) := by simp [strs, DataW.weightsAll, DataW.weights]
    rw [e1]
    rcases List.mem_cons.1 h with rfl | h
    · exact List.mem_cons.2 (.inl (show s.data.size = s.data.toList.length from (Array.length_toList (xs := s.data)).symm))
    · exact List.mem_cons_of_mem _ (strs_weights r s h)
theorem names_open {n : Nat} {v : Value} {x : DataW H × List MemPlace} (h : DataW.trod enc Try.prog W 0 (fun _ => true) true n 23 [v] = some x) :
    ∃ (A : Option Addr) (N : List ByteArray) (cap : Nat), v = .slice A N.length cap ∧ N.length ≤ cap ∧ cap ≤ 9223372036854775807 ∧ StrAt W A N ∧ ((∀ n ∈ x.1.weights Try.prog 23, n ≤ reachBytes) → ∀ s ∈ N, s.size ≤ 140737488351232) := by
  rcases open_strings Try.underlying23 Try.underlying9 cellsStr h with ⟨h0, _⟩ | ⟨a, len, cap, ss, h1, _, hle, hm, hss, hx, hi, hs⟩
  · injection h0 with h0 _
    subst h0
    exact ⟨none, [], 0, rfl, Nat.le_refl _, Nat.zero_le _, (fun i x hx => by rw [List.getElem?_nil] at hx; cases hx), fun _ x hx => by cases hx⟩
  · injection h1 with h1 _
    subst h1
    rw [if_pos rfl] at hss
    unfold maxLen at hm
    have hlen : (ss.take len).length = len := by rw [List.length_take]; omega
    refine ⟨some a, ss.take len, cap, by rw [hlen], by rw [hlen]; exact hle, by omega, fun i z hz => ?_, fun hw z hz => ?_⟩
    rotate_left
    · rw [hx] at hw
      have := hw z.size (by
        simp only [DataW.weights, Try.underlying23]
        exact List.mem_cons_of_mem _ (List.mem_append_left _ (strs_weights _ _ hz)))
      unfold reachBytes at this
      omega
    have hil : i < len := by have := (List.getElem?_eq_some_iff.1 hz).1; omega
    rw [List.getElem?_take_of_lt hil] at hz
    have k0 : W.cell? (a.add i) = some (.string z) := by rw [hi i (by omega), List.getD_eq_getElem?_getD, hz]; rfl
    obtain ⟨g, off, spot⟩ := a
    cases spot with
    | some s =>
      exfalso
      have h2 := hi 0 (by omega)
      exact spotted h2
    | none =>
      rw [add_eq] at k0
      exact ⟨g, off, rfl, World.block_lt_of_cell? W _ k0, k0⟩
/-- A value that is a program. -/
def ProgIn (W : World) (v : Value) : Prop := ∃ A L ca B N cb, v = .agg #[.slice A (L : List (Int × Int)).length ca, .slice B (N : List ByteArray).length cb] ∧ POk W A L ca B N cb
theorem prog_open {base : Nat} {v : Value} {d : DataW H} {p : List MemPlace}
    (hok : Value.okWide Try.prog W .any base 25 v) (h : DataW.Trod enc Try.prog W 0 (fun _ => true) true 25 v d p) (hw : ∀ n ∈ d.weights Try.prog 25, n ≤ reachBytes) : ProgIn W v := by
  obtain ⟨v0, v1, y0, y1, n, rfl, rfl, _, h0, h1⟩ := open_agg2 Try.underlying25 (by kernel_rfl) cellsProg hok h
  obtain ⟨A, L, ca, rfl, la, ma, hA, wA⟩ := insts_open h0
  obtain ⟨B, N, cb, rfl, lb, mb, hB, wB⟩ := names_open h1
  refine ⟨A, L, ca, B, N, cb, rfl, la, ma, lb, mb, hA, hB, wB (fun n hn => hw n ?_), wA⟩
  simp only [DataW.weights, Try.underlying25, DataW.weightsEach, List.map]
  exact List.mem_append_right _ (List.mem_append_left _ hn)
/-- A value that is a slice of bytes. -/
def BytesIn (W : World) (v : Value) : Prop := ∃ (A : Option Addr) (l : List Int) (cap : Nat), v = .slice A l.length cap ∧ l.length ≤ cap ∧ cap ≤ 9223372036854775807 ∧
  (∀ (i : Nat) (z : Int), l[i]? = some z → ∃ g off, A = some ⟨g, off, none⟩ ∧ g < W.heap.size ∧ W.cell? ⟨g, off + i, none⟩ = some (.int .u8 z)) ∧ ∀ z ∈ l, 0 ≤ z ∧ z ≤ 255
theorem cellsByte : Try.prog.cellsOf 5 = 1 := by kernel_rfl
theorem bytes_open {base : Nat} {v : Value} {d : DataW H} {p : List MemPlace}
    (hok : Value.okWide Try.prog W .any base 43 v) (h : DataW.Trod enc Try.prog W 0 (fun _ => true) true 43 v d p) : BytesIn W v := by
  obtain ⟨a0, len0, cap0, rfl⟩ := okWide_slice Try.underlying43 hok
  obtain ⟨fuel, hf⟩ := h
  rcases open_ints Try.underlying43 Try.underlying5 cellsByte hf with ⟨h0, _⟩ | ⟨a, len, cap, zs, h1, _, hle, hm, hzl, _, hcell, hwf⟩
  · simp only [Value.cells, List.cons.injEq, and_true] at h0
    rw [h0]
    exact ⟨none, [], 0, rfl, Nat.le_refl _, Nat.zero_le _, (fun i z hz => by rw [List.getElem?_nil] at hz; cases hz), fun z hz => by cases hz⟩
  · simp only [Value.cells, List.cons.injEq, and_true] at h1
    rw [h1]
    rw [if_pos rfl] at hzl
    unfold maxLen at hm
    have hlen : (zs.take len).length = len := by rw [List.length_take]; omega
    refine ⟨some a, zs.take len, cap, by rw [hlen], by rw [hlen]; exact hle, by omega, fun i z hz => ?_, fun z hz => ?_⟩
    · have hil : i < len := by have := (List.getElem?_eq_some_iff.1 hz).1; omega
      rw [List.getElem?_take_of_lt hil] at hz
      have k0 : W.cell? (a.add i) = some (.int .u8 z) := by rw [hcell i (by omega), List.getD_eq_getElem?_getD, hz]; rfl
      obtain ⟨g, off, spot⟩ := a
      cases spot with
      | some s =>
        exfalso
        have h2 := hcell 0 (by omega)
        exact spotted h2
      | none =>
        rw [add_eq] at k0
        exact ⟨g, off, rfl, World.block_lt_of_cell? W _ k0, k0⟩
    · exact bounds_u8 (hwf z (List.mem_of_mem_take hz))
/-- A value that is a slice of names. -/
def StrsIn (W : World) (v : Value) : Prop := ∃ B N cb, v = .slice B (N : List ByteArray).length cb ∧ N.length ≤ cb ∧ cb ≤ 9223372036854775807 ∧ StrAt W B N ∧ ∀ s ∈ N, s.size ≤ 140737488351232
theorem strs_open {base : Nat} {v : Value} {d : DataW H} {p : List MemPlace}
    (hok : Value.okWide Try.prog W .any base 23 v) (h : DataW.Trod enc Try.prog W 0 (fun _ => true) true 23 v d p) (hw : ∀ n ∈ d.weights Try.prog 23, n ≤ reachBytes) : StrsIn W v := by
  obtain ⟨a0, len0, cap0, rfl⟩ := okWide_slice Try.underlying23 hok
  obtain ⟨fuel, hf⟩ := h
  obtain ⟨B, N, cb, e, lb, mb, hB, wB⟩ := names_open (v := .slice a0 len0 cap0) hf
  exact ⟨B, N, cb, e, lb, mb, hB, wB hw⟩
end
end Go.Proofs.Ythjbjbbbbdhcmaa
