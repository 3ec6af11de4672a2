/-
  Parts of the proof, joined: DpllF.
-/
import Derived.Test.YtpmdnbdmocdngaaGreatMh05

namespace Go.Proofs.YtpmdnbdmocdngaaGreat
open Go.ChangeShapes Go.WideShapes Go.ChangeAt Go.RowKit
set_option linter.unusedVariables false
set_option linter.unusedSimpArgs false

theorem flat_cases {k : Nat} (h : flat k = true) : k = 2 ∨ k = 3 ∨ k = 4 ∨ k = 6 ∨ k = 7 ∨ k = 8 ∨ k = 9 ∨ k = 10 ∨ k = 11 ∨ k = 13 ∨ k = 14 ∨ k = 15 := by
  simp only [flat, Bool.or_eq_true, beq_iff_eq] at h; omega
theorem isnum_cases {k : Nat} (h : isnum k = true) : k = 5 ∨ k = 12 ∨ k = 16 ∨ k = 17 ∨ k = 18 ∨ k = 19 ∨ k = 20 ∨ k = 21 := by
  simp only [isnum, Bool.or_eq_true, beq_iff_eq] at h; omega
theorem row_wo (d : Sd) (x : List Int) : ∀ j, flat j = true → j ≠ 2 → rowOf { d with wo := x } j = rowOf d j := fun j hj hne => by
  rcases flat_cases hj with rfl | rfl | rfl | rfl | rfl | rfl | rfl | rfl | rfl | rfl | rfl | rfl <;> first | rfl | exact absurd rfl hne
theorem row_tr (d : Sd) (x : List Nat) : ∀ j, flat j = true → j ≠ 3 → rowOf { d with tr := x } j = rowOf d j := fun j hj hne => by
  rcases flat_cases hj with rfl | rfl | rfl | rfl | rfl | rfl | rfl | rfl | rfl | rfl | rfl | rfl <;> first | rfl | exact absurd rfl hne
theorem row_ma (d : Sd) (x : List Nat) : ∀ j, flat j = true → j ≠ 4 → rowOf { d with ma := x } j = rowOf d j := fun j hj hne => by
  rcases flat_cases hj with rfl | rfl | rfl | rfl | rfl | rfl | rfl | rfl | rfl | rfl | rfl | rfl <;> first | rfl | exact absurd rfl hne
theorem row_dp (d : Sd) (x : List Nat) : ∀ j, flat j = true → j ≠ 6 → rowOf { d with dp := x } j = rowOf d j := fun j hj hne => by
  rcases flat_cases hj with rfl | rfl | rfl | rfl | rfl | rfl | rfl | rfl | rfl | rfl | rfl | rfl <;> first | rfl | exact absurd rfl hne
theorem row_wy (d : Sd) (x : List Int) : ∀ j, flat j = true → j ≠ 7 → rowOf { d with wy := x } j = rowOf d j := fun j hj hne => by
  rcases flat_cases hj with rfl | rfl | rfl | rfl | rfl | rfl | rfl | rfl | rfl | rfl | rfl | rfl <;> first | rfl | exact absurd rfl hne
theorem row_lk (d : Sd) (x : List Nat) : ∀ j, flat j = true → j ≠ 8 → rowOf { d with lk := x } j = rowOf d j := fun j hj hne => by
  rcases flat_cases hj with rfl | rfl | rfl | rfl | rfl | rfl | rfl | rfl | rfl | rfl | rfl | rfl <;> first | rfl | exact absurd rfl hne
theorem row_hp (d : Sd) (x : List Nat) : ∀ j, flat j = true → j ≠ 9 → rowOf { d with hp := x } j = rowOf d j := fun j hj hne => by
  rcases flat_cases hj with rfl | rfl | rfl | rfl | rfl | rfl | rfl | rfl | rfl | rfl | rfl | rfl <;> first | rfl | exact absurd rfl hne
theorem row_pl (d : Sd) (x : List Int) : ∀ j, flat j = true → j ≠ 10 → rowOf { d with pl := x } j = rowOf d j := fun j hj hne => by
  rcases flat_cases hj with rfl | rfl | rfl | rfl | rfl | rfl | rfl | rfl | rfl | rfl | rfl | rfl <;> first | rfl | exact absurd rfl hne
theorem row_sc (d : Sd) (x : List Int) : ∀ j, flat j = true → j ≠ 11 → rowOf { d with sc := x } j = rowOf d j := fun j hj hne => by
  rcases flat_cases hj with rfl | rfl | rfl | rfl | rfl | rfl | rfl | rfl | rfl | rfl | rfl | rfl <;> first | rfl | exact absurd rfl hne
theorem row_se (d : Sd) (x : List Bool) : ∀ j, flat j = true → j ≠ 13 → rowOf { d with se := x } j = rowOf d j := fun j hj hne => by
  rcases flat_cases hj with rfl | rfl | rfl | rfl | rfl | rfl | rfl | rfl | rfl | rfl | rfl | rfl <;> first | rfl | exact absurd rfl hne
theorem row_nu (d : Sd) (x : List Nat) : ∀ j, flat j = true → j ≠ 14 → rowOf { d with nu := x } j = rowOf d j := fun j hj hne => by
  rcases flat_cases hj with rfl | rfl | rfl | rfl | rfl | rfl | rfl | rfl | rfl | rfl | rfl | rfl <;> first | rfl | exact absurd rfl hne
theorem row_co (d : Sd) (x : List Int) : ∀ j, flat j = true → j ≠ 15 → rowOf { d with co := x } j = rowOf d j := fun j hj hne => by
  rcases flat_cases hj with rfl | rfl | rfl | rfl | rfl | rfl | rfl | rfl | rfl | rfl | rfl | rfl <;> first | rfl | exact absurd rfl hne
theorem num_nx (d : Sd) (x : Nat) : ∀ j, isnum j = true → j ≠ 5 → numOf { d with nx := x } j = numOf d j := fun j hj hne => by
  rcases isnum_cases hj with rfl | rfl | rfl | rfl | rfl | rfl | rfl | rfl <;> first | rfl | exact absurd rfl hne
theorem num_ra (d : Sd) (x : Int) : ∀ j, isnum j = true → j ≠ 12 → numOf { d with ra := x } j = numOf d j := fun j hj hne => by
  rcases isnum_cases hj with rfl | rfl | rfl | rfl | rfl | rfl | rfl | rfl <;> first | rfl | exact absurd rfl hne
theorem num_ch (d : Sd) (x : Int) : ∀ j, isnum j = true → j ≠ 16 → numOf { d with ch := x } j = numOf d j := fun j hj hne => by
  rcases isnum_cases hj with rfl | rfl | rfl | rfl | rfl | rfl | rfl | rfl <;> first | rfl | exact absurd rfl hne
theorem num_pc (d : Sd) (x : Int) : ∀ j, isnum j = true → j ≠ 17 → numOf { d with pc := x } j = numOf d j := fun j hj hne => by
  rcases isnum_cases hj with rfl | rfl | rfl | rfl | rfl | rfl | rfl | rfl <;> first | rfl | exact absurd rfl hne
theorem num_pt (d : Sd) (x : Int) : ∀ j, isnum j = true → j ≠ 18 → numOf { d with pt := x } j = numOf d j := fun j hj hne => by
  rcases isnum_cases hj with rfl | rfl | rfl | rfl | rfl | rfl | rfl | rfl <;> first | rfl | exact absurd rfl hne
theorem num_pu (d : Sd) (x : Int) : ∀ j, isnum j = true → j ≠ 19 → numOf { d with pu := x } j = numOf d j := fun j hj hne => by
  rcases isnum_cases hj with rfl | rfl | rfl | rfl | rfl | rfl | rfl | rfl <;> first | rfl | exact absurd rfl hne
theorem num_le (d : Sd) (x : Int) : ∀ j, isnum j = true → j ≠ 20 → numOf { d with le := x } j = numOf d j := fun j hj hne => by
  rcases isnum_cases hj with rfl | rfl | rfl | rfl | rfl | rfl | rfl | rfl <;> first | rfl | exact absurd rfl hne
theorem num_mo (d : Sd) (x : Int) : ∀ j, isnum j = true → j ≠ 21 → numOf { d with mo := x } j = numOf d j := fun j hj hne => by
  rcases isnum_cases hj with rfl | rfl | rfl | rfl | rfl | rfl | rfl | rfl <;> first | rfl | exact absurd rfl hne
section
variable {B : Nat} {τ : Nat → Nat} {w w' : World} {p n : Nat} {d : Sd} {g cap i m : Nat}
theorem At.other {k : Nat} {e : TypeId} {xs : List Value} (h : At τ w p k e xs g cap) {b j : Nat} {u : Value} (h1 : p ≠ b) (h2 : g ≠ b) : At τ (w.setCell ⟨b, j, none⟩ u) p k e xs g cap :=
  ⟨(World.cell?_of_block (set_other (p := ⟨b, j, none⟩) h1)).trans h.head, fun i v hv => (World.cell?_of_block (set_other (p := ⟨b, j, none⟩) h2)).trans (h.cell i v hv), fun i => by
    have := h.free i
    unfold World.frozen? at this ⊢
    rw [set_other (p := ⟨b, j, none⟩) h2]; exact this, by simpa [World.setCell] using h.lt, h.le, h.cap, h.role, h.ne⟩
theorem At.own {k : Nat} {e : TypeId} {xs : List Value} (h : At τ w p k e xs g cap) {j : Nat} {u : Value} (hj : j ≠ k) : At τ (w.setCell ⟨p, j, none⟩ u) p k e xs g cap :=
  ⟨(World.cell?_setCell_other w ⟨p, j, none⟩ ⟨p, k, none⟩ u (by intro e; injection e with _ e; exact hj e)).trans h.head, fun i v hv => (World.cell?_of_block (set_other (p := ⟨p, j, none⟩) h.ne)).trans (h.cell i v hv), fun i => by
    have := h.free i
    unfold World.frozen? at this ⊢
    rw [set_other (p := ⟨p, j, none⟩) h.ne]; exact this, by simpa [World.setCell] using h.lt, h.le, h.cap, h.role, h.ne⟩
theorem At.apart {k k' : Nat} {e e' : TypeId} {xs xs' : List Value} {g' cap' : Nat} (h : At τ w p k e xs g cap) (h' : At τ w p k' e' xs' g' cap') (hk : k ≠ k') : g ≠ g' := fun he => by
  have h1 := h.role; have h2 := h'.role
  rw [he, h2] at h1; omega
theorem Sr.at_wo (h : Sr B τ w p n d) (hl : 0 < d.wo.length) : ∃ g cap, At τ w p 2 137 (z8 d.wo) g cap := by
  obtain ⟨A, cap, _, h2⟩ := h.row 2 rfl
  obtain ⟨g, _, h3⟩ := h2 (by simpa [rowOf] using hl)
  exact ⟨g, cap, h3⟩
theorem At.wo {xs : List Int} (h : At τ w p 2 137 (z8 xs) g cap) {x : Int} (hx : xs[i]? = some x) : w.cell? ⟨g, i, none⟩ = some (.int .i8 x) := h.cell i _ (by simp [hx])
theorem At.len_wo {xs : List Int} (h : At τ w p 2 137 (z8 xs) g cap) : w.cell? ⟨p, 2, none⟩ = some (.slice (some ⟨g, 0, none⟩) xs.length cap) ∧ xs.length ≤ cap := by
  have h1 := h.head; have h2 := h.le; rw [List.length_map] at h1 h2; exact ⟨h1, h2⟩
theorem Sr.put_wo (h : Sr B τ w p n d) (ha : At τ w p 2 137 (z8 d.wo) g cap) (hi : i < d.wo.length) (x : Int) :
    Sr B τ (w.setCell ⟨g, i, none⟩ (.int .i8 x)) p n { d with wo := d.wo.set i x } ∧ Stp τ τ w (w.setCell ⟨g, i, none⟩ (.int .i8 x)) :=
  h.put (A := none) (m := d.wo.length) (k := 2) rfl ha.len_wo.1 (by simpa [rowOf] using hi) (by simp [rowOf, List.map_set]) (row_wo d _) (fun _ _ => rfl) rfl rfl
theorem Sr.at_tr (h : Sr B τ w p n d) (hl : 0 < d.tr.length) : ∃ g cap, At τ w p 3 138 (n32 d.tr) g cap := by
  obtain ⟨A, cap, _, h2⟩ := h.row 3 rfl
  obtain ⟨g, _, h3⟩ := h2 (by simpa [rowOf] using hl)
  exact ⟨g, cap, h3⟩
theorem Sr.head_tr (h : Sr B τ w p n d) : ∃ A cap, w.cell? ⟨p, 3, none⟩ = some (.slice A d.tr.length cap) ∧ (A = none → d.tr.length = 0) := by
  obtain ⟨A, cap, h1, h2⟩ := h.row 3 rfl
  refine ⟨A, cap, by simpa [rowOf] using h1, fun hA => ?_⟩
  by_cases hl : 0 < d.tr.length
  · obtain ⟨g, h3, _⟩ := h2 (by simpa [rowOf] using hl)
    rw [hA] at h3; cases h3
  · omega
theorem At.tr {xs : List Nat} (h : At τ w p 3 138 (n32 xs) g cap) {x : Nat} (hx : xs[i]? = some x) : w.cell? ⟨g, i, none⟩ = some (.int .i32 (x : Int)) := h.cell i _ (by simp [hx])
theorem At.len_tr {xs : List Nat} (h : At τ w p 3 138 (n32 xs) g cap) : w.cell? ⟨p, 3, none⟩ = some (.slice (some ⟨g, 0, none⟩) xs.length cap) ∧ xs.length ≤ cap := by
  have h1 := h.head; have h2 := h.le; rw [List.length_map] at h1 h2; exact ⟨h1, h2⟩
theorem Sr.cut_tr (h : Sr B τ w p n d) {A : Option Addr} {m0 : Nat} (hc : w.cell? ⟨p, 3, none⟩ = some (.slice A m0 cap)) (hm : m ≤ d.tr.length) (hA : A = none → m = 0 ∧ cap = 0) :
    Sr B τ (w.setCell ⟨p, 3, none⟩ (.slice A m cap)) p n { d with tr := d.tr.take m } ∧ Stp τ τ w (w.setCell ⟨p, 3, none⟩ (.slice A m cap)) :=
  h.cut (k := 3) rfl hc (by simpa [rowOf] using hm) hA (by simp [rowOf, List.map_take]) (row_tr d _) (fun _ _ => rfl) rfl rfl
theorem Sr.own_tr (h : Sr B τ w p n d) : ∃ A cap, w.cell? ⟨p, 3, none⟩ = some (.slice A d.tr.length cap) ∧ w.ownsRow 0 138 1 (.slice A d.tr.length cap) d.tr.length (n32 d.tr) := by
  obtain ⟨pcs, h⟩ := h
  obtain ⟨v, hv, hr⟩ := h.row 3 rfl
  obtain ⟨A, cap, hf⟩ := hr.form
  have hr1 := hr.1
  subst hf
  refine ⟨A, cap, by rw [h.blk.cell, hv]; simp [rowOf], ?_⟩
  simpa [rowOf] using hr1
theorem Sr.grow_tr (h : Sr B τ w p n d) {A : Option Addr} {c0 : Nat} {x : Nat} (hc : w.cell? ⟨p, 3, none⟩ = some (.slice A d.tr.length c0)) (hg : w.grownBy w' (Value.slice A d.tr.length c0).ownBlock)
    (hown : w'.ownsRow 0 138 1 (.slice (some ⟨g, 0, none⟩) (d.tr.length + 1) cap) (d.tr.length + 1) ((n32 d.tr) ++ [.int .i32 (x : Int)])) (hat : (Value.slice A d.tr.length c0).ownBlock = some g ∨ w.heap.size ≤ g) :
    (w'.cell? ⟨p, 3, none⟩ = w.cell? ⟨p, 3, none⟩ ∧ w'.frozen? ⟨p, 3, none⟩ = false) ∧ ∃ τ', Sr B τ' (w'.setCell ⟨p, 3, none⟩ (.slice (some ⟨g, 0, none⟩) (d.tr.length + 1) cap)) p n { d with tr := d.tr ++ [x] } ∧ Stp τ τ' w (w'.setCell ⟨p, 3, none⟩ (.slice (some ⟨g, 0, none⟩) (d.tr.length + 1) cap)) :=
  h.grow (k := 3) rfl hc hg hown hat (by simp [rowOf]) (row_tr d _) (fun _ _ => rfl) rfl rfl
theorem Sr.at_ma (h : Sr B τ w p n d) (hl : 0 < d.ma.length) : ∃ g cap, At τ w p 4 3 (n64 d.ma) g cap := by
  obtain ⟨A, cap, _, h2⟩ := h.row 4 rfl
  obtain ⟨g, _, h3⟩ := h2 (by simpa [rowOf] using hl)
  exact ⟨g, cap, h3⟩
theorem Sr.head_ma (h : Sr B τ w p n d) : ∃ A cap, w.cell? ⟨p, 4, none⟩ = some (.slice A d.ma.length cap) ∧ (A = none → d.ma.length = 0) := by
  obtain ⟨A, cap, h1, h2⟩ := h.row 4 rfl
  refine ⟨A, cap, by simpa [rowOf] using h1, fun hA => ?_⟩
  by_cases hl : 0 < d.ma.length
  · obtain ⟨g, h3, _⟩ := h2 (by simpa [rowOf] using hl)
    rw [hA] at h3; cases h3
  · omega
theorem At.ma {xs : List Nat} (h : At τ w p 4 3 (n64 xs) g cap) {x : Nat} (hx : xs[i]? = some x) : w.cell? ⟨g, i, none⟩ = some (.int .i64 (x : Int)) := h.cell i _ (by simp [hx])
theorem At.len_ma {xs : List Nat} (h : At τ w p 4 3 (n64 xs) g cap) : w.cell? ⟨p, 4, none⟩ = some (.slice (some ⟨g, 0, none⟩) xs.length cap) ∧ xs.length ≤ cap := by
  have h1 := h.head; have h2 := h.le; rw [List.length_map] at h1 h2; exact ⟨h1, h2⟩
theorem Sr.cut_ma (h : Sr B τ w p n d) {A : Option Addr} {m0 : Nat} (hc : w.cell? ⟨p, 4, none⟩ = some (.slice A m0 cap)) (hm : m ≤ d.ma.length) (hA : A = none → m = 0 ∧ cap = 0) :
    Sr B τ (w.setCell ⟨p, 4, none⟩ (.slice A m cap)) p n { d with ma := d.ma.take m } ∧ Stp τ τ w (w.setCell ⟨p, 4, none⟩ (.slice A m cap)) :=
  h.cut (k := 4) rfl hc (by simpa [rowOf] using hm) hA (by simp [rowOf, List.map_take]) (row_ma d _) (fun _ _ => rfl) rfl rfl
theorem Sr.own_ma (h : Sr B τ w p n d) : ∃ A cap, w.cell? ⟨p, 4, none⟩ = some (.slice A d.ma.length cap) ∧ w.ownsRow 0 3 1 (.slice A d.ma.length cap) d.ma.length (n64 d.ma) := by
  obtain ⟨pcs, h⟩ := h
  obtain ⟨v, hv, hr⟩ := h.row 4 rfl
  obtain ⟨A, cap, hf⟩ := hr.form
  have hr1 := hr.1
  subst hf
  refine ⟨A, cap, by rw [h.blk.cell, hv]; simp [rowOf], ?_⟩
  simpa [rowOf] using hr1
theorem Sr.grow_ma (h : Sr B τ w p n d) {A : Option Addr} {c0 : Nat} {x : Nat} (hc : w.cell? ⟨p, 4, none⟩ = some (.slice A d.ma.length c0)) (hg : w.grownBy w' (Value.slice A d.ma.length c0).ownBlock)
    (hown : w'.ownsRow 0 3 1 (.slice (some ⟨g, 0, none⟩) (d.ma.length + 1) cap) (d.ma.length + 1) ((n64 d.ma) ++ [.int .i64 (x : Int)])) (hat : (Value.slice A d.ma.length c0).ownBlock = some g ∨ w.heap.size ≤ g) :
    (w'.cell? ⟨p, 4, none⟩ = w.cell? ⟨p, 4, none⟩ ∧ w'.frozen? ⟨p, 4, none⟩ = false) ∧ ∃ τ', Sr B τ' (w'.setCell ⟨p, 4, none⟩ (.slice (some ⟨g, 0, none⟩) (d.ma.length + 1) cap)) p n { d with ma := d.ma ++ [x] } ∧ Stp τ τ' w (w'.setCell ⟨p, 4, none⟩ (.slice (some ⟨g, 0, none⟩) (d.ma.length + 1) cap)) :=
  h.grow (k := 4) rfl hc hg hown hat (by simp [rowOf]) (row_ma d _) (fun _ _ => rfl) rfl rfl
theorem Sr.at_dp (h : Sr B τ w p n d) (hl : 0 < d.dp.length) : ∃ g cap, At τ w p 6 21 (n32 d.dp) g cap := by
  obtain ⟨A, cap, _, h2⟩ := h.row 6 rfl
  obtain ⟨g, _, h3⟩ := h2 (by simpa [rowOf] using hl)
  exact ⟨g, cap, h3⟩
theorem At.dp {xs : List Nat} (h : At τ w p 6 21 (n32 xs) g cap) {x : Nat} (hx : xs[i]? = some x) : w.cell? ⟨g, i, none⟩ = some (.int .i32 (x : Int)) := h.cell i _ (by simp [hx])
theorem At.len_dp {xs : List Nat} (h : At τ w p 6 21 (n32 xs) g cap) : w.cell? ⟨p, 6, none⟩ = some (.slice (some ⟨g, 0, none⟩) xs.length cap) ∧ xs.length ≤ cap := by
  have h1 := h.head; have h2 := h.le; rw [List.length_map] at h1 h2; exact ⟨h1, h2⟩
theorem Sr.put_dp (h : Sr B τ w p n d) (ha : At τ w p 6 21 (n32 d.dp) g cap) (hi : i < d.dp.length) (x : Nat) :
    Sr B τ (w.setCell ⟨g, i, none⟩ (.int .i32 (x : Int))) p n { d with dp := d.dp.set i x } ∧ Stp τ τ w (w.setCell ⟨g, i, none⟩ (.int .i32 (x : Int))) :=
  h.put (A := none) (m := d.dp.length) (k := 6) rfl ha.len_dp.1 (by simpa [rowOf] using hi) (by simp [rowOf, List.map_set]) (row_dp d _) (fun _ _ => rfl) rfl rfl
theorem Sr.at_wy (h : Sr B τ w p n d) (hl : 0 < d.wy.length) : ∃ g cap, At τ w p 7 21 (z32 d.wy) g cap := by
  obtain ⟨A, cap, _, h2⟩ := h.row 7 rfl
  obtain ⟨g, _, h3⟩ := h2 (by simpa [rowOf] using hl)
  exact ⟨g, cap, h3⟩
theorem Sr.head_wy (h : Sr B τ w p n d) : ∃ A cap, w.cell? ⟨p, 7, none⟩ = some (.slice A d.wy.length cap) ∧ (A = none → d.wy.length = 0) := by
  obtain ⟨A, cap, h1, h2⟩ := h.row 7 rfl
  refine ⟨A, cap, by simpa [rowOf] using h1, fun hA => ?_⟩
  by_cases hl : 0 < d.wy.length
  · obtain ⟨g, h3, _⟩ := h2 (by simpa [rowOf] using hl)
    rw [hA] at h3; cases h3
  · omega
theorem At.wy {xs : List Int} (h : At τ w p 7 21 (z32 xs) g cap) {x : Int} (hx : xs[i]? = some x) : w.cell? ⟨g, i, none⟩ = some (.int .i32 x) := h.cell i _ (by simp [hx])
theorem At.len_wy {xs : List Int} (h : At τ w p 7 21 (z32 xs) g cap) : w.cell? ⟨p, 7, none⟩ = some (.slice (some ⟨g, 0, none⟩) xs.length cap) ∧ xs.length ≤ cap := by
  have h1 := h.head; have h2 := h.le; rw [List.length_map] at h1 h2; exact ⟨h1, h2⟩
theorem Sr.put_wy (h : Sr B τ w p n d) (ha : At τ w p 7 21 (z32 d.wy) g cap) (hi : i < d.wy.length) (x : Int) :
    Sr B τ (w.setCell ⟨g, i, none⟩ (.int .i32 x)) p n { d with wy := d.wy.set i x } ∧ Stp τ τ w (w.setCell ⟨g, i, none⟩ (.int .i32 x)) :=
  h.put (A := none) (m := d.wy.length) (k := 7) rfl ha.len_wy.1 (by simpa [rowOf] using hi) (by simp [rowOf, List.map_set]) (row_wy d _) (fun _ _ => rfl) rfl rfl
theorem Sr.at_lk (h : Sr B τ w p n d) (hl : 0 < d.lk.length) : ∃ g cap, At τ w p 8 138 (n32 d.lk) g cap := by
  obtain ⟨A, cap, _, h2⟩ := h.row 8 rfl
  obtain ⟨g, _, h3⟩ := h2 (by simpa [rowOf] using hl)
  exact ⟨g, cap, h3⟩
theorem At.lk {xs : List Nat} (h : At τ w p 8 138 (n32 xs) g cap) {x : Nat} (hx : xs[i]? = some x) : w.cell? ⟨g, i, none⟩ = some (.int .i32 (x : Int)) := h.cell i _ (by simp [hx])
theorem At.len_lk {xs : List Nat} (h : At τ w p 8 138 (n32 xs) g cap) : w.cell? ⟨p, 8, none⟩ = some (.slice (some ⟨g, 0, none⟩) xs.length cap) ∧ xs.length ≤ cap := by
  have h1 := h.head; have h2 := h.le; rw [List.length_map] at h1 h2; exact ⟨h1, h2⟩
theorem Sr.put_lk (h : Sr B τ w p n d) (ha : At τ w p 8 138 (n32 d.lk) g cap) (hi : i < d.lk.length) (x : Nat) :
    Sr B τ (w.setCell ⟨g, i, none⟩ (.int .i32 (x : Int))) p n { d with lk := d.lk.set i x } ∧ Stp τ τ w (w.setCell ⟨g, i, none⟩ (.int .i32 (x : Int))) :=
  h.put (A := none) (m := d.lk.length) (k := 8) rfl ha.len_lk.1 (by simpa [rowOf] using hi) (by simp [rowOf, List.map_set]) (row_lk d _) (fun _ _ => rfl) rfl rfl
theorem Sr.at_hp (h : Sr B τ w p n d) (hl : 0 < d.hp.length) : ∃ g cap, At τ w p 9 21 (n32 d.hp) g cap := by
  obtain ⟨A, cap, _, h2⟩ := h.row 9 rfl
  obtain ⟨g, _, h3⟩ := h2 (by simpa [rowOf] using hl)
  exact ⟨g, cap, h3⟩
theorem Sr.head_hp (h : Sr B τ w p n d) : ∃ A cap, w.cell? ⟨p, 9, none⟩ = some (.slice A d.hp.length cap) ∧ (A = none → d.hp.length = 0) := by
  obtain ⟨A, cap, h1, h2⟩ := h.row 9 rfl
  refine ⟨A, cap, by simpa [rowOf] using h1, fun hA => ?_⟩
  by_cases hl : 0 < d.hp.length
  · obtain ⟨g, h3, _⟩ := h2 (by simpa [rowOf] using hl)
    rw [hA] at h3; cases h3
  · omega
theorem At.hp {xs : List Nat} (h : At τ w p 9 21 (n32 xs) g cap) {x : Nat} (hx : xs[i]? = some x) : w.cell? ⟨g, i, none⟩ = some (.int .i32 (x : Int)) := h.cell i _ (by simp [hx])
theorem At.len_hp {xs : List Nat} (h : At τ w p 9 21 (n32 xs) g cap) : w.cell? ⟨p, 9, none⟩ = some (.slice (some ⟨g, 0, none⟩) xs.length cap) ∧ xs.length ≤ cap := by
  have h1 := h.head; have h2 := h.le; rw [List.length_map] at h1 h2; exact ⟨h1, h2⟩
theorem Sr.put_hp (h : Sr B τ w p n d) (ha : At τ w p 9 21 (n32 d.hp) g cap) (hi : i < d.hp.length) (x : Nat) :
    Sr B τ (w.setCell ⟨g, i, none⟩ (.int .i32 (x : Int))) p n { d with hp := d.hp.set i x } ∧ Stp τ τ w (w.setCell ⟨g, i, none⟩ (.int .i32 (x : Int))) :=
  h.put (A := none) (m := d.hp.length) (k := 9) rfl ha.len_hp.1 (by simpa [rowOf] using hi) (by simp [rowOf, List.map_set]) (row_hp d _) (fun _ _ => rfl) rfl rfl
theorem Sr.cut_hp (h : Sr B τ w p n d) {A : Option Addr} {m0 : Nat} (hc : w.cell? ⟨p, 9, none⟩ = some (.slice A m0 cap)) (hm : m ≤ d.hp.length) (hA : A = none → m = 0 ∧ cap = 0) :
    Sr B τ (w.setCell ⟨p, 9, none⟩ (.slice A m cap)) p n { d with hp := d.hp.take m } ∧ Stp τ τ w (w.setCell ⟨p, 9, none⟩ (.slice A m cap)) :=
  h.cut (k := 9) rfl hc (by simpa [rowOf] using hm) hA (by simp [rowOf, List.map_take]) (row_hp d _) (fun _ _ => rfl) rfl rfl
theorem Sr.own_hp (h : Sr B τ w p n d) : ∃ A cap, w.cell? ⟨p, 9, none⟩ = some (.slice A d.hp.length cap) ∧ w.ownsRow 0 21 1 (.slice A d.hp.length cap) d.hp.length (n32 d.hp) := by
  obtain ⟨pcs, h⟩ := h
  obtain ⟨v, hv, hr⟩ := h.row 9 rfl
  obtain ⟨A, cap, hf⟩ := hr.form
  have hr1 := hr.1
  subst hf
  refine ⟨A, cap, by rw [h.blk.cell, hv]; simp [rowOf], ?_⟩
  simpa [rowOf] using hr1
theorem Sr.grow_hp (h : Sr B τ w p n d) {A : Option Addr} {c0 : Nat} {x : Nat} (hc : w.cell? ⟨p, 9, none⟩ = some (.slice A d.hp.length c0)) (hg : w.grownBy w' (Value.slice A d.hp.length c0).ownBlock)
    (hown : w'.ownsRow 0 21 1 (.slice (some ⟨g, 0, none⟩) (d.hp.length + 1) cap) (d.hp.length + 1) ((n32 d.hp) ++ [.int .i32 (x : Int)])) (hat : (Value.slice A d.hp.length c0).ownBlock = some g ∨ w.heap.size ≤ g) :
    (w'.cell? ⟨p, 9, none⟩ = w.cell? ⟨p, 9, none⟩ ∧ w'.frozen? ⟨p, 9, none⟩ = false) ∧ ∃ τ', Sr B τ' (w'.setCell ⟨p, 9, none⟩ (.slice (some ⟨g, 0, none⟩) (d.hp.length + 1) cap)) p n { d with hp := d.hp ++ [x] } ∧ Stp τ τ' w (w'.setCell ⟨p, 9, none⟩ (.slice (some ⟨g, 0, none⟩) (d.hp.length + 1) cap)) :=
  h.grow (k := 9) rfl hc hg hown hat (by simp [rowOf]) (row_hp d _) (fun _ _ => rfl) rfl rfl
theorem Sr.at_pl (h : Sr B τ w p n d) (hl : 0 < d.pl.length) : ∃ g cap, At τ w p 10 21 (z32 d.pl) g cap := by
  obtain ⟨A, cap, _, h2⟩ := h.row 10 rfl
  obtain ⟨g, _, h3⟩ := h2 (by simpa [rowOf] using hl)
  exact ⟨g, cap, h3⟩
theorem At.pl {xs : List Int} (h : At τ w p 10 21 (z32 xs) g cap) {x : Int} (hx : xs[i]? = some x) : w.cell? ⟨g, i, none⟩ = some (.int .i32 x) := h.cell i _ (by simp [hx])
theorem At.len_pl {xs : List Int} (h : At τ w p 10 21 (z32 xs) g cap) : w.cell? ⟨p, 10, none⟩ = some (.slice (some ⟨g, 0, none⟩) xs.length cap) ∧ xs.length ≤ cap := by
  have h1 := h.head; have h2 := h.le; rw [List.length_map] at h1 h2; exact ⟨h1, h2⟩
theorem Sr.put_pl (h : Sr B τ w p n d) (ha : At τ w p 10 21 (z32 d.pl) g cap) (hi : i < d.pl.length) (x : Int) :
    Sr B τ (w.setCell ⟨g, i, none⟩ (.int .i32 x)) p n { d with pl := d.pl.set i x } ∧ Stp τ τ w (w.setCell ⟨g, i, none⟩ (.int .i32 x)) :=
  h.put (A := none) (m := d.pl.length) (k := 10) rfl ha.len_pl.1 (by simpa [rowOf] using hi) (by simp [rowOf, List.map_set]) (row_pl d _) (fun _ _ => rfl) rfl rfl
theorem Sr.at_sc (h : Sr B τ w p n d) (hl : 0 < d.sc.length) : ∃ g cap, At τ w p 11 2 (z64s d.sc) g cap := by
  obtain ⟨A, cap, _, h2⟩ := h.row 11 rfl
  obtain ⟨g, _, h3⟩ := h2 (by simpa [rowOf] using hl)
  exact ⟨g, cap, h3⟩
theorem Sr.head_sc (h : Sr B τ w p n d) : ∃ A cap, w.cell? ⟨p, 11, none⟩ = some (.slice A d.sc.length cap) ∧ (A = none → d.sc.length = 0) := by
  obtain ⟨A, cap, h1, h2⟩ := h.row 11 rfl
  refine ⟨A, cap, by simpa [rowOf] using h1, fun hA => ?_⟩
  by_cases hl : 0 < d.sc.length
  · obtain ⟨g, h3, _⟩ := h2 (by simpa [rowOf] using hl)
    rw [hA] at h3; cases h3
  · omega
theorem At.sc {xs : List Int} (h : At τ w p 11 2 (z64s xs) g cap) {x : Int} (hx : xs[i]? = some x) : w.cell? ⟨g, i, none⟩ = some (.int .i64 x) := h.cell i _ (by simp [hx])
theorem At.len_sc {xs : List Int} (h : At τ w p 11 2 (z64s xs) g cap) : w.cell? ⟨p, 11, none⟩ = some (.slice (some ⟨g, 0, none⟩) xs.length cap) ∧ xs.length ≤ cap := by
  have h1 := h.head; have h2 := h.le; rw [List.length_map] at h1 h2; exact ⟨h1, h2⟩
theorem Sr.put_sc (h : Sr B τ w p n d) (ha : At τ w p 11 2 (z64s d.sc) g cap) (hi : i < d.sc.length) (x : Int) :
    Sr B τ (w.setCell ⟨g, i, none⟩ (.int .i64 x)) p n { d with sc := d.sc.set i x } ∧ Stp τ τ w (w.setCell ⟨g, i, none⟩ (.int .i64 x)) :=
  h.put (A := none) (m := d.sc.length) (k := 11) rfl ha.len_sc.1 (by simpa [rowOf] using hi) (by simp [rowOf, List.map_set]) (row_sc d _) (fun _ _ => rfl) rfl rfl
theorem Sr.at_se (h : Sr B τ w p n d) (hl : 0 < d.se.length) : ∃ g cap, At τ w p 13 4 (d.se.map Value.bool) g cap := by
  obtain ⟨A, cap, _, h2⟩ := h.row 13 rfl
  obtain ⟨g, _, h3⟩ := h2 (by simpa [rowOf] using hl)
  exact ⟨g, cap, h3⟩
theorem At.se {xs : List Bool} (h : At τ w p 13 4 (xs.map Value.bool) g cap) {x : Bool} (hx : xs[i]? = some x) : w.cell? ⟨g, i, none⟩ = some (.bool x) := h.cell i _ (by simp [hx])
theorem At.len_se {xs : List Bool} (h : At τ w p 13 4 (xs.map Value.bool) g cap) : w.cell? ⟨p, 13, none⟩ = some (.slice (some ⟨g, 0, none⟩) xs.length cap) ∧ xs.length ≤ cap := by
  have h1 := h.head; have h2 := h.le; rw [List.length_map] at h1 h2; exact ⟨h1, h2⟩
theorem Sr.put_se (h : Sr B τ w p n d) (ha : At τ w p 13 4 (d.se.map Value.bool) g cap) (hi : i < d.se.length) (x : Bool) :
    Sr B τ (w.setCell ⟨g, i, none⟩ (.bool x)) p n { d with se := d.se.set i x } ∧ Stp τ τ w (w.setCell ⟨g, i, none⟩ (.bool x)) :=
  h.put (A := none) (m := d.se.length) (k := 13) rfl ha.len_se.1 (by simpa [rowOf] using hi) (by simp [rowOf, List.map_set]) (row_se d _) (fun _ _ => rfl) rfl rfl
theorem Sr.at_nu (h : Sr B τ w p n d) (hl : 0 < d.nu.length) : ∃ g cap, At τ w p 14 21 (n32 d.nu) g cap := by
  obtain ⟨A, cap, _, h2⟩ := h.row 14 rfl
  obtain ⟨g, _, h3⟩ := h2 (by simpa [rowOf] using hl)
  exact ⟨g, cap, h3⟩
theorem Sr.head_nu (h : Sr B τ w p n d) : ∃ A cap, w.cell? ⟨p, 14, none⟩ = some (.slice A d.nu.length cap) ∧ (A = none → d.nu.length = 0) := by
  obtain ⟨A, cap, h1, h2⟩ := h.row 14 rfl
  refine ⟨A, cap, by simpa [rowOf] using h1, fun hA => ?_⟩
  by_cases hl : 0 < d.nu.length
  · obtain ⟨g, h3, _⟩ := h2 (by simpa [rowOf] using hl)
    rw [hA] at h3; cases h3
  · omega
theorem At.nu {xs : List Nat} (h : At τ w p 14 21 (n32 xs) g cap) {x : Nat} (hx : xs[i]? = some x) : w.cell? ⟨g, i, none⟩ = some (.int .i32 (x : Int)) := h.cell i _ (by simp [hx])
theorem At.len_nu {xs : List Nat} (h : At τ w p 14 21 (n32 xs) g cap) : w.cell? ⟨p, 14, none⟩ = some (.slice (some ⟨g, 0, none⟩) xs.length cap) ∧ xs.length ≤ cap := by
  have h1 := h.head; have h2 := h.le; rw [List.length_map] at h1 h2; exact ⟨h1, h2⟩
theorem Sr.cut_nu (h : Sr B τ w p n d) {A : Option Addr} {m0 : Nat} (hc : w.cell? ⟨p, 14, none⟩ = some (.slice A m0 cap)) (hm : m ≤ d.nu.length) (hA : A = none → m = 0 ∧ cap = 0) :
    Sr B τ (w.setCell ⟨p, 14, none⟩ (.slice A m cap)) p n { d with nu := d.nu.take m } ∧ Stp τ τ w (w.setCell ⟨p, 14, none⟩ (.slice A m cap)) :=
  h.cut (k := 14) rfl hc (by simpa [rowOf] using hm) hA (by simp [rowOf, List.map_take]) (row_nu d _) (fun _ _ => rfl) rfl rfl
theorem Sr.own_nu (h : Sr B τ w p n d) : ∃ A cap, w.cell? ⟨p, 14, none⟩ = some (.slice A d.nu.length cap) ∧ w.ownsRow 0 21 1 (.slice A d.nu.length cap) d.nu.length (n32 d.nu) := by
  obtain ⟨pcs, h⟩ := h
  obtain ⟨v, hv, hr⟩ := h.row 14 rfl
  obtain ⟨A, cap, hf⟩ := hr.form
  have hr1 := hr.1
  subst hf
  refine ⟨A, cap, by rw [h.blk.cell, hv]; simp [rowOf], ?_⟩
  simpa [rowOf] using hr1
theorem Sr.grow_nu (h : Sr B τ w p n d) {A : Option Addr} {c0 : Nat} {x : Nat} (hc : w.cell? ⟨p, 14, none⟩ = some (.slice A d.nu.length c0)) (hg : w.grownBy w' (Value.slice A d.nu.length c0).ownBlock)
    (hown : w'.ownsRow 0 21 1 (.slice (some ⟨g, 0, none⟩) (d.nu.length + 1) cap) (d.nu.length + 1) ((n32 d.nu) ++ [.int .i32 (x : Int)])) (hat : (Value.slice A d.nu.length c0).ownBlock = some g ∨ w.heap.size ≤ g) :
    (w'.cell? ⟨p, 14, none⟩ = w.cell? ⟨p, 14, none⟩ ∧ w'.frozen? ⟨p, 14, none⟩ = false) ∧ ∃ τ', Sr B τ' (w'.setCell ⟨p, 14, none⟩ (.slice (some ⟨g, 0, none⟩) (d.nu.length + 1) cap)) p n { d with nu := d.nu ++ [x] } ∧ Stp τ τ' w (w'.setCell ⟨p, 14, none⟩ (.slice (some ⟨g, 0, none⟩) (d.nu.length + 1) cap)) :=
  h.grow (k := 14) rfl hc hg hown hat (by simp [rowOf]) (row_nu d _) (fun _ _ => rfl) rfl rfl
theorem Sr.at_co (h : Sr B τ w p n d) (hl : 0 < d.co.length) : ∃ g cap, At τ w p 15 3 (z64s d.co) g cap := by
  obtain ⟨A, cap, _, h2⟩ := h.row 15 rfl
  obtain ⟨g, _, h3⟩ := h2 (by simpa [rowOf] using hl)
  exact ⟨g, cap, h3⟩
theorem At.co {xs : List Int} (h : At τ w p 15 3 (z64s xs) g cap) {x : Int} (hx : xs[i]? = some x) : w.cell? ⟨g, i, none⟩ = some (.int .i64 x) := h.cell i _ (by simp [hx])
theorem At.len_co {xs : List Int} (h : At τ w p 15 3 (z64s xs) g cap) : w.cell? ⟨p, 15, none⟩ = some (.slice (some ⟨g, 0, none⟩) xs.length cap) ∧ xs.length ≤ cap := by
  have h1 := h.head; have h2 := h.le; rw [List.length_map] at h1 h2; exact ⟨h1, h2⟩
theorem Sr.put_co (h : Sr B τ w p n d) (ha : At τ w p 15 3 (z64s d.co) g cap) (hi : i < d.co.length) (x : Int) :
    Sr B τ (w.setCell ⟨g, i, none⟩ (.int .i64 x)) p n { d with co := d.co.set i x } ∧ Stp τ τ w (w.setCell ⟨g, i, none⟩ (.int .i64 x)) :=
  h.put (A := none) (m := d.co.length) (k := 15) rfl ha.len_co.1 (by simpa [rowOf] using hi) (by simp [rowOf, List.map_set]) (row_co d _) (fun _ _ => rfl) rfl rfl
theorem Sr.fin_tr (h : Sr B τ w p n d) (x : Nat) {A : Option Addr} {c0 : Nat} (hc : w.cell? ⟨p, 3, none⟩ = some (.slice A d.tr.length c0)) : ∀ (wp : World) (c g1 : Nat), (w.alloc (.cells #[.int .i32 (x : Int)] 138)).grownBy wp (Value.slice A d.tr.length c0).ownBlock → wp.ownsRow 0 138 1 (.slice (some ⟨g1, 0, none⟩) (d.tr.length + 1) c) (d.tr.length + 1) ((n32 d.tr) ++ [.int .i32 (x : Int)]) → ((Value.slice A d.tr.length c0).ownBlock = some g1 ∨ g1 = w.heap.size + 1) →
    (wp.cell? ⟨p, 3, none⟩ = some (.slice A d.tr.length c0) ∧ wp.frozen? ⟨p, 3, none⟩ = false) ∧ ∃ τ', Sr B τ' (wp.setCell ⟨p, 3, none⟩ (.slice (some ⟨g1, 0, none⟩) (d.tr.length + 1) c)) p n { d with tr := d.tr ++ [x] } ∧ Stp τ τ' w (wp.setCell ⟨p, 3, none⟩ (.slice (some ⟨g1, 0, none⟩) (d.tr.length + 1) c)) := fun wp c g1 hg hown hat => by
  have b1 : Below w.heap.size w (w.alloc (.cells #[.int .i32 (x : Int)] 138)) := (Below.refl _ _).alloc (Nat.le_refl _) _
  have f' : (w.alloc (.cells #[.int .i32 (x : Int)] 138)).cell? ⟨p, 3, none⟩ = some (.slice A d.tr.length c0) := (b1.cell h.plt).trans hc
  obtain ⟨h1, τ', h2, h3⟩ := (h.below b1).grow_tr (x := x) f' hg hown (hat.imp id (fun e => by simp; omega))
  exact ⟨⟨h1.1.trans f', h1.2⟩, τ', h2, (Stp.of_below τ b1).trans h3⟩
theorem Sr.fin_ma (h : Sr B τ w p n d) (x : Nat) {A : Option Addr} {c0 : Nat} (hc : w.cell? ⟨p, 4, none⟩ = some (.slice A d.ma.length c0)) : ∀ (wp : World) (c g1 : Nat), (w.alloc (.cells #[.int .i64 (x : Int)] 3)).grownBy wp (Value.slice A d.ma.length c0).ownBlock → wp.ownsRow 0 3 1 (.slice (some ⟨g1, 0, none⟩) (d.ma.length + 1) c) (d.ma.length + 1) ((n64 d.ma) ++ [.int .i64 (x : Int)]) → ((Value.slice A d.ma.length c0).ownBlock = some g1 ∨ g1 = w.heap.size + 1) →
    (wp.cell? ⟨p, 4, none⟩ = some (.slice A d.ma.length c0) ∧ wp.frozen? ⟨p, 4, none⟩ = false) ∧ ∃ τ', Sr B τ' (wp.setCell ⟨p, 4, none⟩ (.slice (some ⟨g1, 0, none⟩) (d.ma.length + 1) c)) p n { d with ma := d.ma ++ [x] } ∧ Stp τ τ' w (wp.setCell ⟨p, 4, none⟩ (.slice (some ⟨g1, 0, none⟩) (d.ma.length + 1) c)) := fun wp c g1 hg hown hat => by
  have b1 : Below w.heap.size w (w.alloc (.cells #[.int .i64 (x : Int)] 3)) := (Below.refl _ _).alloc (Nat.le_refl _) _
  have f' : (w.alloc (.cells #[.int .i64 (x : Int)] 3)).cell? ⟨p, 4, none⟩ = some (.slice A d.ma.length c0) := (b1.cell h.plt).trans hc
  obtain ⟨h1, τ', h2, h3⟩ := (h.below b1).grow_ma (x := x) f' hg hown (hat.imp id (fun e => by simp; omega))
  exact ⟨⟨h1.1.trans f', h1.2⟩, τ', h2, (Stp.of_below τ b1).trans h3⟩
theorem Sr.fin_nu (h : Sr B τ w p n d) (x : Nat) {A : Option Addr} {c0 : Nat} (hc : w.cell? ⟨p, 14, none⟩ = some (.slice A d.nu.length c0)) : ∀ (wp : World) (c g1 : Nat), (w.alloc (.cells #[.int .i32 (x : Int)] 21)).grownBy wp (Value.slice A d.nu.length c0).ownBlock → wp.ownsRow 0 21 1 (.slice (some ⟨g1, 0, none⟩) (d.nu.length + 1) c) (d.nu.length + 1) ((n32 d.nu) ++ [.int .i32 (x : Int)]) → ((Value.slice A d.nu.length c0).ownBlock = some g1 ∨ g1 = w.heap.size + 1) →
    (wp.cell? ⟨p, 14, none⟩ = some (.slice A d.nu.length c0) ∧ wp.frozen? ⟨p, 14, none⟩ = false) ∧ ∃ τ', Sr B τ' (wp.setCell ⟨p, 14, none⟩ (.slice (some ⟨g1, 0, none⟩) (d.nu.length + 1) c)) p n { d with nu := d.nu ++ [x] } ∧ Stp τ τ' w (wp.setCell ⟨p, 14, none⟩ (.slice (some ⟨g1, 0, none⟩) (d.nu.length + 1) c)) := fun wp c g1 hg hown hat => by
  have b1 : Below w.heap.size w (w.alloc (.cells #[.int .i32 (x : Int)] 21)) := (Below.refl _ _).alloc (Nat.le_refl _) _
  have f' : (w.alloc (.cells #[.int .i32 (x : Int)] 21)).cell? ⟨p, 14, none⟩ = some (.slice A d.nu.length c0) := (b1.cell h.plt).trans hc
  obtain ⟨h1, τ', h2, h3⟩ := (h.below b1).grow_nu (x := x) f' hg hown (hat.imp id (fun e => by simp; omega))
  exact ⟨⟨h1.1.trans f', h1.2⟩, τ', h2, (Stp.of_below τ b1).trans h3⟩
theorem Sr.get_nx (h : Sr B τ w p n d) : w.cell? ⟨p, 5, none⟩ = some (.int .i64 d.nx) := h.num 5 rfl
theorem Sr.set_nx (h : Sr B τ w p n d) (x : Nat) : Sr B τ (w.setCell ⟨p, 5, none⟩ (.int .i64 (x : Int))) p n { d with nx := x } ∧ Stp τ τ w (w.setCell ⟨p, 5, none⟩ (.int .i64 (x : Int))) :=
  h.set (k := 5) rfl rfl (fun j hj => by rcases flat_cases hj with rfl | rfl | rfl | rfl | rfl | rfl | rfl | rfl | rfl | rfl | rfl | rfl <;> rfl) (num_nx d x) rfl rfl
theorem Sr.get_ra (h : Sr B τ w p n d) : w.cell? ⟨p, 12, none⟩ = some (.int .i64 d.ra) := h.num 12 rfl
theorem Sr.set_ra (h : Sr B τ w p n d) (x : Int) : Sr B τ (w.setCell ⟨p, 12, none⟩ (.int .i64 x)) p n { d with ra := x } ∧ Stp τ τ w (w.setCell ⟨p, 12, none⟩ (.int .i64 x)) :=
  h.set (k := 12) rfl rfl (fun j hj => by rcases flat_cases hj with rfl | rfl | rfl | rfl | rfl | rfl | rfl | rfl | rfl | rfl | rfl | rfl <;> rfl) (num_ra d x) rfl rfl
theorem Sr.get_ch (h : Sr B τ w p n d) : w.cell? ⟨p, 16, none⟩ = some (.int .i64 d.ch) := h.num 16 rfl
theorem Sr.set_ch (h : Sr B τ w p n d) (x : Int) : Sr B τ (w.setCell ⟨p, 16, none⟩ (.int .i64 x)) p n { d with ch := x } ∧ Stp τ τ w (w.setCell ⟨p, 16, none⟩ (.int .i64 x)) :=
  h.set (k := 16) rfl rfl (fun j hj => by rcases flat_cases hj with rfl | rfl | rfl | rfl | rfl | rfl | rfl | rfl | rfl | rfl | rfl | rfl <;> rfl) (num_ch d x) rfl rfl
theorem Sr.get_pc (h : Sr B τ w p n d) : w.cell? ⟨p, 17, none⟩ = some (.int .i64 d.pc) := h.num 17 rfl
theorem Sr.set_pc (h : Sr B τ w p n d) (x : Int) : Sr B τ (w.setCell ⟨p, 17, none⟩ (.int .i64 x)) p n { d with pc := x } ∧ Stp τ τ w (w.setCell ⟨p, 17, none⟩ (.int .i64 x)) :=
  h.set (k := 17) rfl rfl (fun j hj => by rcases flat_cases hj with rfl | rfl | rfl | rfl | rfl | rfl | rfl | rfl | rfl | rfl | rfl | rfl <;> rfl) (num_pc d x) rfl rfl
theorem Sr.get_pt (h : Sr B τ w p n d) : w.cell? ⟨p, 18, none⟩ = some (.int .i64 d.pt) := h.num 18 rfl
theorem Sr.set_pt (h : Sr B τ w p n d) (x : Int) : Sr B τ (w.setCell ⟨p, 18, none⟩ (.int .i64 x)) p n { d with pt := x } ∧ Stp τ τ w (w.setCell ⟨p, 18, none⟩ (.int .i64 x)) :=
  h.set (k := 18) rfl rfl (fun j hj => by rcases flat_cases hj with rfl | rfl | rfl | rfl | rfl | rfl | rfl | rfl | rfl | rfl | rfl | rfl <;> rfl) (num_pt d x) rfl rfl
theorem Sr.get_pu (h : Sr B τ w p n d) : w.cell? ⟨p, 19, none⟩ = some (.int .i64 d.pu) := h.num 19 rfl
theorem Sr.set_pu (h : Sr B τ w p n d) (x : Int) : Sr B τ (w.setCell ⟨p, 19, none⟩ (.int .i64 x)) p n { d with pu := x } ∧ Stp τ τ w (w.setCell ⟨p, 19, none⟩ (.int .i64 x)) :=
  h.set (k := 19) rfl rfl (fun j hj => by rcases flat_cases hj with rfl | rfl | rfl | rfl | rfl | rfl | rfl | rfl | rfl | rfl | rfl | rfl <;> rfl) (num_pu d x) rfl rfl
theorem Sr.get_le (h : Sr B τ w p n d) : w.cell? ⟨p, 20, none⟩ = some (.int .i64 d.le) := h.num 20 rfl
theorem Sr.set_le (h : Sr B τ w p n d) (x : Int) : Sr B τ (w.setCell ⟨p, 20, none⟩ (.int .i64 x)) p n { d with le := x } ∧ Stp τ τ w (w.setCell ⟨p, 20, none⟩ (.int .i64 x)) :=
  h.set (k := 20) rfl rfl (fun j hj => by rcases flat_cases hj with rfl | rfl | rfl | rfl | rfl | rfl | rfl | rfl | rfl | rfl | rfl | rfl <;> rfl) (num_le d x) rfl rfl
theorem Sr.get_mo (h : Sr B τ w p n d) : w.cell? ⟨p, 21, none⟩ = some (.int .i64 d.mo) := h.num 21 rfl
theorem Sr.set_mo (h : Sr B τ w p n d) (x : Int) : Sr B τ (w.setCell ⟨p, 21, none⟩ (.int .i64 x)) p n { d with mo := x } ∧ Stp τ τ w (w.setCell ⟨p, 21, none⟩ (.int .i64 x)) :=
  h.set (k := 21) rfl rfl (fun j hj => by rcases flat_cases hj with rfl | rfl | rfl | rfl | rfl | rfl | rfl | rfl | rfl | rfl | rfl | rfl <;> rfl) (num_mo d x) rfl rfl
end
end Go.Proofs.YtpmdnbdmocdngaaGreat
