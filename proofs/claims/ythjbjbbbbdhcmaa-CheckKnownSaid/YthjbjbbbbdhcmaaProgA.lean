/-
  What the laws of stage 10 themselves call: Small, Same, decimal.
-/
import Derived.Test.YthjbjbbbbdhcmaaProgO
import Derived.Deep.QuietTactic
import Derived.BigQuiet
import Derived.Deep.Draws
namespace Go.Proofs.Ythjbjbbbbdhcmaa
open Go.ChangeShapes Go.WideShapes Go.ChangeAt Go.RowKit Go.Joins
set_option linter.unusedVariables false

theorem total_bd (N : List ByteArray) (hs : ∀ s ∈ N, s.size ≤ 140737488351232) (hN : N.length ≤ 100) (k : Nat) : total (N.take k) ≤ 14073748835532800 := by
  have h1 := total_le _ N hs (min k N.length)
  have h2 : N.take (min k N.length) = N.take k := by rw [List.take_eq_take_iff]; omega
  rw [h2] at h1
  have h3 : min k N.length * 140737488351232 ≤ 100 * 140737488351232 := Nat.mul_le_mul_right _ (by omega)
  omega
theorem i64_wrap_in (n : Int) (h0 : 0 ≤ n) (h1 : n ≤ 9223372036854775807) : wrap64 n = n := by
  unfold wrap64; omega
theorem add_grown (w : World) (o : Obj) (k : Nat) (hk : k < w.heap.size) : (w.alloc o).heap[k]? = w.heap[k]? := Below.heap_alloc w o k hk
theorem alloc_size (w : World) (o : Obj) : w.heap.size ≤ (w.alloc o).heap.size := by show w.heap.size ≤ (w.heap.push o).size; simp
theorem POk.alloc {W : World} {A B : Option Addr} {L : List (Int × Int)} {N : List ByteArray} {ca cb : Nat} (h : POk W A L ca B N cb) (o : Obj) : POk (W.alloc o) A L ca B N cb :=
  h.keep (fun k hk => add_grown W o k hk) (alloc_size W o)
set_option maxRecDepth 4000 in
set_option maxHeartbeats 4000000 in
theorem small_any {W : World} {A B : Option Addr} {L : List (Int × Int)} {N : List ByteArray} {ca cb : Nat} (h : POk W A L ca B N cb) :
    Calls Try.prog 9 #[.agg #[.slice A L.length ca, .slice B N.length cb]] W fun e W' => e = .returned (.bool (smallB L N)) ∧ Grown W W' := by
  have HK := Lib.hid (h.alloc (.cells #[.slice A L.length ca, .slice B N.length cb] 25))
  have hl1 : (L.length : Int) ≤ 9223372036854775807 := by have := h.la; have := h.ma; omega
  have hl2 : (N.length : Int) ≤ 9223372036854775807 := by have := h.lb; have := h.mb; omega
  have HG := Lib.hid ((Grown.refl W).alloc #[.slice A L.length ca, .slice B N.length cb] 25)
  obtain ⟨c0, c1, f0, f1⟩ := two_cells (heap_alloc_new W (.cells #[.slice A L.length ca, .slice B N.length cb] 25))
  clear h
  go_enter Try.func9, Try.ntmps9
  go_wp2
  generalize hW1 : W.alloc (.cells #[.slice A L.length ca, .slice B N.length cb] 25) = W1 at *
  go_loopw [3, 4] (fun v i wr => ∃ (k : Nat) (n : Int), k ≤ N.length ∧ i = .int .i64 k ∧ v = .int .i64 n ∧ Hid (N.length ≤ 100 → n = total (N.take k)) ∧ wr = W1) (fun _ i _ => N.length - (intOf i).toNat)
  case atStart => exact ⟨0, 0, by omega, rfl, rfl, fun _ => by simp [total], rfl⟩
  case round =>
    obtain ⟨k, n, hk, rfl, rfl, HT, rfl⟩ := hrel
    by_cases hlt : k < N.length
    · obtain ⟨s, hs⟩ : ∃ s, N[k]? = some s := ⟨_, List.getElem?_eq_getElem hlt⟩
      obtain ⟨g, off, rfl, hg, hcell⟩ := HK.out.str k s hs
      have HT2 : Hid (N.length ≤ 100 → wrap64 (n + s.size) = total (N.take (k + 1))) := fun hN => by
        rw [total_succ N k s hs, HT.out hN]
        have := total_bd N HK.out.sz hN (k + 1)
        rw [total_succ N k s hs] at this
        rw [i64_wrap_in _ (by omega) (by omega)]
        omega
      clear HT hs
      go_wp2
      refine ⟨⟨k + 1, wrap64 (n + s.size), by omega, by go_num, rfl, HT2, trivial⟩, ?_⟩
      simp [intOf]
      omega
    · obtain rfl : k = N.length := by omega
      have HT2 : Hid (N.length ≤ 100 → n = total N) := fun hN => by have := HT.out hN; rwa [List.take_length] at this
      clear HT
      go_wp2
      all_goals
        go_ret
        refine ⟨?_, HG.out⟩
        have HT3 := HT2.out
        unfold smallB
        first
          | (have e9 : decide (n ≤ 5000) = decide (total N ≤ 5000) := by
               rw [HT3 (by omega)]
               exact decide_eq_decide.2 ⟨fun h => by omega, fun h => by omega⟩
             rw [decide_eq_true (by omega : L.length ≤ 500), decide_eq_true (by omega : N.length ≤ 100), e9]
             rfl)
          | (rw [decide_eq_true (by omega : L.length ≤ 500), decide_eq_false (by omega : ¬ N.length ≤ 100)]; simp)
          | (rw [decide_eq_false (by omega : ¬ L.length ≤ 500)]; simp)
end Go.Proofs.Ythjbjbbbbdhcmaa
