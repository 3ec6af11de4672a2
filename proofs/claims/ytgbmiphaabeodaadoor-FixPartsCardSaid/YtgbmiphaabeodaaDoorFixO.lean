/-
  slices.Sort at terms' numbers: the row is in order, all else as it was.
-/
import Derived.Test.YtgbmiphaabeodaaDoorSort
import Derived.Test.YtgbmiphaabeodaaDoorTermW
import Derived.Test.YtgbmiphaabeodaaDoorFixG
import Derived.Lib.RowBridge
namespace Go.Proofs.YtgbmiphaabeodaaDoor
open Go.ChangeShapes Go.WideShapes Go.ChangeAt Go.RowKit Go.Sort
set_option linter.unusedVariables false

def msort (zs : List Int) : List Int := zs.mergeSort fun x y => decide (x ≤ y)
theorem msort_perm (zs : List Int) : (msort zs).Perm zs := List.mergeSort_perm zs _
theorem msort_len (zs : List Int) : (msort zs).length = zs.length := (msort_perm zs).length_eq
theorem msort_mem {zs : List Int} {z : Int} : z ∈ msort zs ↔ z ∈ zs := (msort_perm zs).mem_iff
theorem msort_le (zs : List Int) : (msort zs).Pairwise (· ≤ ·) := by
  have := List.pairwise_mergeSort (le := fun (x y : Int) => decide (x ≤ y)) (fun a b c h1 h2 => by simp at *; omega) (fun a b => by simp; omega) zs
  exact this.imp fun h => by simpa using h
theorem sort_any (w : World) (base g cap : Nat) (zs : List Int) (h : w.ownsRow base 33 1 (.slice (some ⟨g, 0, none⟩) zs.length cap) zs.length (zs.map (Value.int .i64))) (hn : zs.length ≤ 65536) (hwf : ∀ z ∈ zs, (Lit.int .i64 z).wf = true) :
    Calls Tryd.prog 52 #[.slice (some ⟨g, 0, none⟩) zs.length cap] w fun e w' => e = .returned (.tuple #[]) ∧ Kept (fun k => k = g) w w' ∧ NumsAt .i64 w' (some ⟨g, 0, none⟩) (msort zs) := by
  have hx : ∃ cur : Array Value, Has w g 33 cur ∧ ∀ (i : Nat) (z : Int), zs[i]? = some z → cur[i]? = some (Value.int .i64 z) := by
    rcases h.2 with ⟨e, _⟩ | ⟨g', cap', cur, e, _, hh, hn, hc, hsz, ht⟩
    · injection e with e; cases e
    · injection e with e1 e2 e3
      injection e1 with e1
      injection e1 with e1 _
      subst e1
      refine ⟨cur, hh, fun i z hz => ?_⟩
      have hi := (List.getElem?_eq_some_iff.1 hz).1
      have : (zs.map (Value.int .i64))[i]? = some (Value.int .i64 z) := by rw [List.getElem?_map, hz]; rfl
      rw [← this, ← ht, List.getElem?_take_of_lt (by omega)]
      simp
  obtain ⟨cur, hh, hc⟩ := hx
  have hH : Holds (Value.int .i64) w g 0 zs.toArray := by
    have := Lib.holds_of_ints (w := w) (b := g) (off := 0) (n := zs.length) (zs := zs) (Nat.le_refl _) (fun j hj => by
      rw [hh.cell, Nat.zero_add, hc j _ (List.getElem?_eq_getElem hj), List.getD_eq_getElem?_getD, List.getElem?_eq_getElem hj]; rfl) (fun j hj => hh.free _)
    rwa [List.take_length] at this
  refine (AnyM.slices_Sort_int Tryd.laysSort g 0 cap zs w hH hh.lt (by omega)).mono fun e w' hp => ?_
  obtain ⟨he, n, os, rfl⟩ := hp
  have hsz : (zs.mergeSort fun x y => decide (x ≤ y)).toArray.size = zs.toArray.size := by simp
  have hH' : Holds (Value.int .i64) (Go.Sort.ahead w n) g 0 zs.toArray := hH
  refine ⟨he, ⟨rfl, rfl, rfl, by simp [Go.Sort.ahead], fun k hk hne => ?_⟩, fun i z hz => ⟨_, rfl, ?_⟩, (fun a ha => by injection ha with ha; subst ha; have := hh.lt; simp [Go.Sort.ahead]; omega), fun z hz => hwf z (msort_mem.1 hz)⟩
  · rw [heap_grow_old _ _ (by simpa [Go.Sort.ahead] using hk)]
    simp only [putRow, mapBlock, Go.Sort.ahead, Array.getElem?_modify]
    rw [if_neg (fun e => hne e.symm)]
  · have hi : i < zs.length := by have := (List.getElem?_eq_some_iff.1 hz).1; rwa [msort_len] at this
    have e : (⟨g, 0, none⟩ : Addr).add i = ⟨g, 0 + i, none⟩ := by unfold Addr.add; split; simp_all; rfl
    have hj : i < (zs.mergeSort fun x y => decide (x ≤ y)).toArray.size := by simpa using hi
    rw [e, cell?_grow _ _ _ (by simpa [Go.Sort.ahead] using hh.lt), cell?_putRow _ _ _ _ _ _ hH' hsz i hj]
    have : (zs.mergeSort fun x y => decide (x ≤ y)).toArray[i]! = z := by
      rw [getElem!_pos _ i hj]
      have := (List.getElem?_eq_some_iff.1 hz).2
      simpa [msort] using this
    rw [this]
end Go.Proofs.YtgbmiphaabeodaaDoor
