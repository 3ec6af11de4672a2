/-
  Stage 10's plain data: instructions and names as lists, a program's bytes, what memory holds of them.
-/
import Derived.Test.YthjbjbbbbdhcmaaInstC
import Derived.ChangeSlices
import Derived.Deep.Slices
import Derived.SliceStrings
import Derived.Lib.SmallJoins
import Derived.Laws.OwnMore
import Derived.Lib.Hide
namespace Go.Proofs.Ythjbjbbbbdhcmaa
open Go.ChangeShapes Go.WideShapes Go.ChangeAt Go.RowKit Go.Joins
set_option linter.unusedVariables false

/-- May an instruction be? -/
def okI (x : Int × Int) : Bool := decide (1 ≤ x.1 ∧ x.1 < 42) && mayB x.1.toNat x.2
/-- The bytes of a name, of an instruction, of a program: numbers. -/
def encS (s : ByteArray) : List UInt8 := UInt8.ofNat s.size :: s.data.toList
def encI (x : Int × Int) : List UInt8 := [UInt8.ofNat x.1.toNat, UInt8.ofNat (x.2.toNat / 256), UInt8.ofNat x.2.toNat]
def encP (L : List (Int × Int)) (N : List ByteArray) : List UInt8 := [88, 82, UInt8.ofNat N.length] ++ N.flatMap encS ++ [UInt8.ofNat L.length] ++ L.flatMap encI
/-- The first error of a program: 0 is none. -/
def errP (L : List (Int × Int)) (N : List ByteArray) : Int :=
  if 96 < L.length ∨ 8 < N.length then 3 else if N.any (fun s => decide (255 < s.size)) then 10 else if L.all okI then 0 else 5
def total (N : List ByteArray) : Nat := (N.map ByteArray.size).sum
def smallB (L : List (Int × Int)) (N : List ByteArray) : Bool := decide (L.length ≤ 500) && decide (N.length ≤ 100) && decide (total N ≤ 5000)

/-- Instructions from an address on: two cells each. -/
def InstAt (W : World) (A : Option Addr) (L : List (Int × Int)) : Prop := ∀ i x, L[i]? = some x → ∃ g off, A = some ⟨g, off, none⟩ ∧ g < W.heap.size ∧
  W.cell? ⟨g, off + i * 2, none⟩ = some (.int .i64 x.1) ∧ W.cell? ⟨g, off + i * 2 + 1, none⟩ = some (.int .i64 x.2)
def StrAt (W : World) (A : Option Addr) (N : List ByteArray) : Prop := ∀ i s, N[i]? = some s → ∃ g off, A = some ⟨g, off, none⟩ ∧ g < W.heap.size ∧ W.cell? ⟨g, off + i, none⟩ = some (.string s)
theorem InstAt.keep {W W' : World} {A : Option Addr} {L : List (Int × Int)} (h : InstAt W A L) (hk : ∀ k, k < W.heap.size → W'.heap[k]? = W.heap[k]?) (hs : W.heap.size ≤ W'.heap.size) : InstAt W' A L := fun i x hx => by
  obtain ⟨g, off, h1, h2, h3, h4⟩ := h i x hx
  exact ⟨g, off, h1, Nat.lt_of_lt_of_le h2 hs, (World.cell?_of_block (hk g h2)).trans h3, (World.cell?_of_block (hk g h2)).trans h4⟩
theorem StrAt.keep {W W' : World} {A : Option Addr} {N : List ByteArray} (h : StrAt W A N) (hk : ∀ k, k < W.heap.size → W'.heap[k]? = W.heap[k]?) (hs : W.heap.size ≤ W'.heap.size) : StrAt W' A N := fun i x hx => by
  obtain ⟨g, off, h1, h2, h3⟩ := h i x hx
  exact ⟨g, off, h1, Nat.lt_of_lt_of_le h2 hs, (World.cell?_of_block (hk g h2)).trans h3⟩
/-- What is asked of a program's parts. -/
structure POk (W : World) (A : Option Addr) (L : List (Int × Int)) (ca : Nat) (B : Option Addr) (N : List ByteArray) (cb : Nat) : Prop where
  la : L.length ≤ ca
  ma : ca ≤ 9223372036854775807
  lb : N.length ≤ cb
  mb : cb ≤ 9223372036854775807
  inst : InstAt W A L
  str : StrAt W B N
  sz : ∀ s ∈ N, s.size ≤ 140737488351232
  wf : ∀ x ∈ L, (Lit.int .i64 x.1).wf = true ∧ (Lit.int .i64 x.2).wf = true
theorem POk.keep {W W' : World} {A B : Option Addr} {L : List (Int × Int)} {N : List ByteArray} {ca cb : Nat} (h : POk W A L ca B N cb) (hk : ∀ k, k < W.heap.size → W'.heap[k]? = W.heap[k]?) (hs : W.heap.size ≤ W'.heap.size) : POk W' A L ca B N cb :=
  ⟨h.la, h.ma, h.lb, h.mb, h.inst.keep hk hs, h.str.keep hk hs, h.sz, h.wf⟩
theorem total_succ (N : List ByteArray) (i : Nat) (s : ByteArray) (h : N[i]? = some s) : total (N.take (i + 1)) = total (N.take i) + s.size := by
  obtain ⟨hi, he⟩ := List.getElem?_eq_some_iff.1 h
  unfold total
  rw [List.take_succ_eq_append_getElem hi, he]
  simp
theorem total_le (M : Nat) (N : List ByteArray) (hs : ∀ s ∈ N, s.size ≤ M) (k : Nat) : total (N.take k) ≤ k * M := by
  induction k with
  | zero => simp [total]
  | succ k ih =>
    cases h : N[k]? with
    | none =>
      have hl : N.length ≤ k := by rw [List.getElem?_eq_none_iff] at h; exact h
      rw [List.take_of_length_le (by omega)] 
      rw [List.take_of_length_le (by omega)] at ih
      have h9 : (k + 1) * M = k * M + M := Nat.succ_mul _ _
      omega
    | some s =>
      rw [total_succ N k s h]
      have := hs s (List.mem_of_getElem? h)
      have h9 : (k + 1) * M = k * M + M := Nat.succ_mul _ _
      omega
end Go.Proofs.Ythjbjbbbbdhcmaa
