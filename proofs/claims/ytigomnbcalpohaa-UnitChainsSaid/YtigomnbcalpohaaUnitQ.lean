/-
  Rows that unit's laws lay and turn round, and Run where nothing is assigned.
-/
import Derived.Test.YtigomnbcalpohaaUnitB
import Derived.Test.YtigomnbcalpohaaUnitX
import Derived.Deep.OwnRows
namespace Go.Proofs.Ytigomnbcalpohaa
open Go.ChangeShapes Go.WideShapes Go.ChangeAt Go.RowKit
set_option linter.unusedVariables false

theorem u8_wf {a : Int} (h : (Lit.int .u8 a).wf = true) : 0 ≤ a ∧ a ≤ 255 := by
  simp [Lit.wf, IntKind.min, IntKind.max, IntKind.signed, IntKind.bits] at h
  omega
theorem rem_to (a : Int) (h0 : 0 ≤ a) (N : Nat) (hN : 0 < N) : ∃ k : Nat, a.tmod (N : Int) = k ∧ k < N := by
  have h1 := Int.tmod_nonneg (N : Int) h0
  have h2 := Int.tmod_lt_of_pos a (b := (N : Int)) (by omega)
  exact ⟨(a.tmod N).toNat, by omega, by omega⟩
theorem made_row {α : Type} (v : α → Value) (z : α) (k : Nat) : (madeCells #[v z] k).toList = (List.replicate k z).map v := by
  refine List.ext_getElem? fun i => ?_
  rw [List.getElem?_map, List.getElem?_replicate]
  by_cases hi : i < k
  · simp [madeCells, hi, Nat.mod_one]
  · simp [madeCells, hi]
theorem made_at (w : World) (k : Nat) {g : Nat} (hg : w.heap.size = g) : SeqAt (Value.int .i64) (w.alloc (.cells (madeCells #[.int .i64 0] k) 3)) (some ⟨g, 0, none⟩) (List.replicate k 0) := by
  subst hg
  refine ⟨fun i z hz => ⟨_, rfl, ?_⟩⟩
  rw [add_at, World.cell?_alloc_at _ _ _ _ rfl]
  have e : (madeCells #[Value.int .i64 0] k)[i]? = ((List.replicate k (0 : Int)).map (Value.int .i64))[i]? := by rw [← made_row (Value.int .i64)]; simp
  rw [e, List.getElem?_map, hz]; rfl
theorem zeros_unk (k : Nat) : (List.replicate k (0 : Int)).any unk = false := by
  rw [List.any_eq_false]
  intro x hx
  have := List.eq_of_mem_replicate hx
  subst this; decide
theorem fine_zeros {k : Nat} {f : List (List Int)} (h : mayM (k : Int) f = true) : fine (k : Int) f (List.replicate k 0) = true := by
  unfold fine; rw [h, List.length_replicate, zeros_unk]; simp
theorem run_zeros {A : Option Addr} {f : List (List Int)} {fcap k : Nat} (w : World) (hk : k ≤ 65536) (hf : FormAt w A f) (hfl : f.length ≤ 100000) (hcl : ∀ c ∈ f, c.length ≤ 100000) {g : Nat} (hg : w.heap.size = g) :
    Calls Try.prog 12 #[.int .i64 (k : Int), .slice A f.length fcap, .slice (some ⟨g, 0, none⟩) k k] (w.alloc (.cells (madeCells #[.int .i64 0] k) 3)) (RunPost (k : Int) f (List.replicate k 0) (w.alloc (.cells (madeCells #[.int .i64 0] k) 3))) := by
  have cr := run_any (A := A) (M := some ⟨g, 0, none⟩) (f := f) (m := List.replicate k 0) (fcap := fcap) (mcap := k) (k : Int) (w.alloc (.cells (madeCells #[.int .i64 0] k) 3)) (by unfold Wf; omega) (hf.keep ((Below.refl _ _).alloc (Nat.le_refl _) _)) hfl hcl (made_at w k hg) (by simp; omega) (fun h => by cases h)
  rw [List.length_replicate] at cr
  exact cr
theorem LRel.draws {w wr : World} {e : TypeId} {v : Value} {l : List Value} (h : LRel w wr e v l) (n : Nat) : LRel w (wr.drewN n) e v l := ⟨h.own, Below.draws h.below n⟩
theorem RowsOK.keep {w w' : World} {news : List Value} {f : List (List Int)} (h : RowsOK w news f) (b : Below w.heap.size w w') : RowsOK w' news f :=
  ⟨h.1, fun i c hc => by obtain ⟨B, cap, h1, h2, h3⟩ := h.2 i c hc; exact ⟨B, cap, h1, h2.keep b, h3⟩⟩
theorem own_form2 {w : World} {base : Nat} {X : Option Addr} {n cap : Nat} {news : List Value} {f : List (List Int)} (h : w.ownsRow base 23 1 (.slice X n cap) n news) (k : RowsOK w news f) (hw : ∀ c ∈ f, ∀ l ∈ c, Wf l) : FormAt w X f := by
  refine ⟨fun i c hc => ?_, fun a ha => ?_, hw⟩
  · obtain ⟨B, bcap, h1, h2, h3⟩ := k.2 i c hc
    have hi := (List.getElem?_eq_some_iff.1 h1).1
    have hn : news.length = n := by have := h.1; simpa using this
    rcases h.2 with ⟨h0, h4⟩ | ⟨g, c2, cur, h0, _, hg, _⟩
    · omega
    · injection h0 with h0 h5 h6; subst h0; subst h6
      refine ⟨_, B, bcap, rfl, ?_, h2, h3⟩
      rw [add_at, World.ownsRow.cellAt h i (by omega), h1]
  · rcases h.2 with ⟨h0, _⟩ | ⟨g, c2, cur, h0, _, hg, _⟩
    · injection h0 with h0; subst h0; cases ha
    · injection h0 with h0; subst h0; injection ha with ha; subst ha; exact lt_of_heap hg
theorem RowsOK.snoc {w : World} {news : List Value} {f : List (List Int)} {B : Option Addr} {cap : Nat} {c : List Int} (h : RowsOK w news f) (hs : SeqAt (Value.int .i64) w B c) (hl : c.length ≤ 9223372036854775807) : RowsOK w (news ++ [.slice B c.length cap]) (f ++ [c]) := by
  refine ⟨by rw [List.length_append, List.length_append, h.1]; rfl, fun i d hd => ?_⟩
  by_cases hi : i < f.length
  · rw [List.getElem?_append_left hi] at hd
    rw [List.getElem?_append_left (by rw [h.1]; exact hi)]; exact h.2 i d hd
  · have hi2 := (List.getElem?_eq_some_iff.1 hd).1
    simp at hi2
    obtain rfl : i = f.length := by omega
    simp at hd; subst hd
    exact ⟨B, cap, by rw [← h.1]; simp, hs, hl⟩
theorem RowsOK.swap {w : World} {news : List Value} {f : List (List Int)} {i j : Nat} {u v : Value} {c d : List Int} (h : RowsOK w news f) (hc : f[i]? = some c) (hd : f[j]? = some d) (hu : news[i]? = some u) (hv : news[j]? = some v) : RowsOK w ((news.set i v).set j u) ((f.set i d).set j c) := by
  refine ⟨by simp [h.1], fun q e he => ?_⟩
  have hi := (List.getElem?_eq_some_iff.1 hc).1
  have hj := (List.getElem?_eq_some_iff.1 hd).1
  by_cases e1 : q = j
  · subst e1
    rw [List.getElem?_set_self (by simp; exact hj)] at he
    rw [List.getElem?_set_self (by simp; rw [h.1]; exact hj)]
    injection he with he; subst he
    obtain ⟨B, cap, h1, h2⟩ := h.2 i _ hc
    rw [hu] at h1; injection h1 with h1
    exact ⟨B, cap, by rw [h1], h2⟩
  · rw [List.getElem?_set_ne (fun k => e1 k.symm)] at he ⊢
    by_cases e2 : q = i
    · subst e2
      rw [List.getElem?_set_self hi] at he
      rw [List.getElem?_set_self (by rw [h.1]; exact hi)]
      injection he with he; subst he
      obtain ⟨B, cap, h1, h2⟩ := h.2 j _ hd
      rw [hv] at h1; injection h1 with h1
      exact ⟨B, cap, by rw [h1], h2⟩
    · rw [List.getElem?_set_ne (fun k => e2 k.symm)] at he ⊢
      exact h.2 q e he
theorem mem_swap {α : Type} {f : List α} {i j : Nat} {c d : α} (hij : i ≠ j) (hc : f[i]? = some c) (hd : f[j]? = some d) (x : α) : x ∈ (f.set i d).set j c ↔ x ∈ f := by
  have hi := (List.getElem?_eq_some_iff.1 hc).1
  have hj := (List.getElem?_eq_some_iff.1 hd).1
  simp only [List.mem_iff_getElem?]
  constructor
  · rintro ⟨q, hq⟩
    by_cases e1 : q = j
    · subst e1; rw [List.getElem?_set_self (by simp; exact hj)] at hq; exact ⟨i, by rw [hc]; exact hq⟩
    · rw [List.getElem?_set_ne (fun k => e1 k.symm)] at hq
      by_cases e2 : q = i
      · subst e2; rw [List.getElem?_set_self hi] at hq; exact ⟨j, by rw [hd]; exact hq⟩
      · rw [List.getElem?_set_ne (fun k => e2 k.symm)] at hq; exact ⟨q, hq⟩
  · rintro ⟨q, hq⟩
    by_cases e1 : q = j
    · subst e1; refine ⟨i, ?_⟩
      rw [List.getElem?_set_ne (fun k => hij k.symm), List.getElem?_set_self hi, ← hq, hd]
    · by_cases e2 : q = i
      · subst e2; exact ⟨j, by rw [List.getElem?_set_self (by simp; exact hj), ← hq, hc]⟩
      · exact ⟨q, by rw [List.getElem?_set_ne (fun k => e1 k.symm), List.getElem?_set_ne (fun k => e2 k.symm)]; exact hq⟩
end Go.Proofs.Ytigomnbcalpohaa
