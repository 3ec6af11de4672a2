/-
  A program's bytes tell it, and where they end: what stands behind them is told apart.
-/
import Derived.Test.YtcecmkelefhaaaaDoorProgC
namespace Go.Proofs.YtcecmkelefhaaaaDoor
open Go.ChangeShapes Go.WideShapes Go.ChangeAt Go.RowKit Go.Joins
set_option linter.unusedVariables false

theorem ofNat_inj {a b : Nat} (ha : a ≤ 255) (hb : b ≤ 255) (h : UInt8.ofNat a = UInt8.ofNat b) : a = b := by
  have h1 := ofNat_toNat ha
  have h2 := ofNat_toNat hb
  rw [h] at h1
  omega
theorem encS_apart {s s' : ByteArray} {r r' : List UInt8} (h1 : s.size ≤ 255) (h2 : s'.size ≤ 255) (h : encS s ++ r = encS s' ++ r') : s = s' ∧ r = r' := by
  unfold encS at h
  simp only [List.cons_append, List.cons.injEq] at h
  obtain ⟨h3, h4⟩ := h
  have e := ofNat_inj h1 h2 h3
  have l1 : s.data.toList.length = s.size := by rw [Array.length_toList]; rfl
  have l2 : s'.data.toList.length = s'.size := by rw [Array.length_toList]; rfl
  obtain ⟨e1, e2⟩ := List.append_inj h4 (by rw [l1, l2, e])
  exact ⟨bytes_inj e1, e2⟩
theorem names_apart : ∀ {N N' : List ByteArray} {r r' : List UInt8}, N.length = N'.length → (∀ s ∈ N, s.size ≤ 255) → (∀ s ∈ N', s.size ≤ 255) → N.flatMap encS ++ r = N'.flatMap encS ++ r' → N = N' ∧ r = r'
  | [], [], _, _, _, _, _, h => ⟨rfl, by simpa using h⟩
  | s :: N, s' :: N', r, r', hl, h1, h2, h => by
    rw [List.flatMap_cons, List.flatMap_cons, List.append_assoc, List.append_assoc] at h
    obtain ⟨e1, e2⟩ := encS_apart (h1 s List.mem_cons_self) (h2 s' List.mem_cons_self) h
    obtain ⟨e3, e4⟩ := names_apart (by simpa using hl) (fun t ht => h1 t (List.mem_cons_of_mem _ ht)) (fun t ht => h2 t (List.mem_cons_of_mem _ ht)) e2
    exact ⟨by rw [e1, e3], e4⟩
theorem encI_apart {x y : Int × Int} {r r' : List UInt8} (hx : okI x = true) (hy : okI y = true) (h : encI x ++ r = encI y ++ r') : x = y ∧ r = r' := by
  obtain ⟨a1, a2, a3, a4⟩ := okI_bd hx
  obtain ⟨b1, b2, b3, b4⟩ := okI_bd hy
  unfold encI at h
  simp only [List.cons_append, List.cons.injEq, List.nil_append] at h
  obtain ⟨h1, h2, h3, h4⟩ := h
  have e1 := ofNat_inj (by omega) (by omega) h1
  have e2 := ofNat_inj (by omega) (by omega) h2
  have e3 : x.2.toNat % 256 = y.2.toNat % 256 := by
    have := congrArg UInt8.toNat h3
    rw [UInt8.toNat_ofNat', UInt8.toNat_ofNat'] at this
    exact this
  refine ⟨Prod.ext (by omega) (by omega), h4⟩
theorem insts_apart : ∀ {L L' : List (Int × Int)} {r r' : List UInt8}, L.length = L'.length → (∀ x ∈ L, okI x = true) → (∀ x ∈ L', okI x = true) → L.flatMap encI ++ r = L'.flatMap encI ++ r' → L = L' ∧ r = r'
  | [], [], _, _, _, _, _, h => ⟨rfl, by simpa using h⟩
  | x :: L, y :: L', r, r', hl, h1, h2, h => by
    rw [List.flatMap_cons, List.flatMap_cons, List.append_assoc, List.append_assoc] at h
    obtain ⟨e1, e2⟩ := encI_apart (h1 x List.mem_cons_self) (h2 y List.mem_cons_self) h
    obtain ⟨e3, e4⟩ := insts_apart (by simpa using hl) (fun t ht => h1 t (List.mem_cons_of_mem _ ht)) (fun t ht => h2 t (List.mem_cons_of_mem _ ht)) e2
    exact ⟨by rw [e1, e3], e4⟩
/-- What no error says. -/
theorem err0_is {L : List (Int × Int)} {N : List ByteArray} (h : errP L N = 0) : L.length ≤ 96 ∧ N.length ≤ 8 ∧ (∀ s ∈ N, s.size ≤ 255) ∧ ∀ x ∈ L, okI x = true := by
  unfold errP at h
  split at h
  · cases h
  · split at h
    · cases h
    · split at h
      · rename_i h1 h2 h3
        refine ⟨by omega, by omega, fun s hs => ?_, fun x hx => List.all_eq_true.1 h3 x hx⟩
        have h4 := Bool.not_eq_true _ ▸ h2
        have := List.any_eq_false.1 h4 s hs
        simp at this
        omega
      · cases h
/-- TWO PROGRAMS WITHOUT ERROR WHOSE BYTES BEGIN ALIKE, WHATEVER STANDS BEHIND THEM, ARE ONE. -/
theorem prog_apart {L L' : List (Int × Int)} {N N' : List ByteArray} {r r' : List UInt8} (h : errP L N = 0) (h' : errP L' N' = 0) (he : encP L N ++ r = encP L' N' ++ r') : L = L' ∧ N = N' ∧ r = r' := by
  obtain ⟨a1, a2, a3, a4⟩ := err0_is h
  obtain ⟨b1, b2, b3, b4⟩ := err0_is h'
  unfold encP at he
  simp only [List.append_assoc, List.cons_append, List.nil_append, List.cons.injEq, true_and] at he
  obtain ⟨h1, h2⟩ := he
  have e1 := ofNat_inj (by omega) (by omega) h1
  obtain ⟨e2, e3⟩ := names_apart e1 a3 b3 h2
  simp only [List.cons.injEq] at e3
  obtain ⟨h3, h4⟩ := e3
  have e4 := ofNat_inj (by omega) (by omega) h3
  obtain ⟨e5, e6⟩ := insts_apart e4 a4 b4 h4
  exact ⟨e5, e2, e6⟩
theorem encP_len (L : List (Int × Int)) (N : List ByteArray) : (encP L N).length = 4 + N.length + total N + 3 * L.length := by
  have h1 : (N.flatMap encS).length = N.length + total N := by
    induction N with
    | nil => rfl
    | cons s N ih =>
      have l1 : s.data.toList.length = s.size := by rw [Array.length_toList]; rfl
      rw [List.flatMap_cons, List.length_append, ih]
      simp only [encS, List.length_cons, l1, total, List.map_cons, List.sum_cons]
      omega
  have h2 : (L.flatMap encI).length = 3 * L.length := by
    induction L with
    | nil => rfl
    | cons x L ih =>
      rw [List.flatMap_cons, List.length_append, ih]
      simp only [encI, List.length_cons, List.length_nil]
      omega
  unfold encP
  simp only [List.length_append, List.length_cons, List.length_nil, h1, h2]
  omega
end Go.Proofs.YtcecmkelefhaaaaDoor
