/-
  Parts of the proof, joined: DpllK.
-/
import Derived.Test.YtpmdnbdmocdngaaGreatMh04

namespace Go.Proofs.YtpmdnbdmocdngaaGreat
open Go.ChangeShapes Go.WideShapes Go.ChangeAt Go.RowKit
set_option linter.unusedVariables false
set_option linter.unusedSimpArgs false

theorem set_other {w : World} {p : Addr} {u : Value} {k : Nat} (h : k ≠ p.block) : (w.setCell p u).heap[k]? = w.heap[k]? := Below.heap_setCell w p u k h
theorem alloc_other {w : World} {o : Obj} {k : Nat} (h : k < w.heap.size) : (w.alloc o).heap[k]? = w.heap[k]? := Below.heap_alloc w o k h
theorem row_same {w w' : World} {base : Nat} {e : TypeId} {size n : Nat} {v : Value} {xs : List Value} (h : w.ownsRow base e size v n xs) (he : w'.heap = w.heap) : w'.ownsRow base e size v n xs := by
  refine ⟨h.1, h.2.imp id ?_⟩
  rintro ⟨g, cap, cur, a, b, c, d⟩
  exact ⟨g, cap, cur, a, b, by rw [he]; exact c, d⟩
theorem grown_alike {W W' wp : World} {row : Option Nat} (h : W'.grownBy wp row) (he : W'.heap = W.heap) (h1 : W'.os = W.os) (h2 : W'.tape = W.tape) (h3 : W'.output = W.output) : W.grownBy wp row :=
  ⟨h.os.trans h1, h.tape.trans h2, h.output.trans h3, by rw [← he]; exact h.size, fun k hk hr => by rw [← he]; exact h.block k (by rw [he]; exact hk) hr⟩
theorem new_at {W W' : World} {o : Obj} {g : Nat} (hg : W.heap.size = g) (he : W'.heap = (W.alloc o).heap) : W'.heap[g]? = some o := by rw [he, ← hg]; exact new_heap W o
/-! ### Worlds in which what is not the search's stays -/
structure Stp (τ τ' : Nat → Nat) (w w' : World) : Prop where
  kept : Kept (fun b => τ b ≠ 0) w w'
  tag : ∀ b, b < w.heap.size → τ b = 0 → τ' b = 0
section
variable {R : Nat → Prop} {τ τ' τ'' : Nat → Nat} {w w' w'' : World}
theorem Stp.refl (τ : Nat → Nat) (w : World) : Stp τ τ w w := ⟨⟨rfl, rfl, rfl, Nat.le_refl _, fun _ _ _ => rfl⟩, fun _ _ h => h⟩
theorem Stp.trans (h : Stp τ τ' w w') (k : Stp τ' τ'' w' w'') : Stp τ τ'' w w'' :=
  ⟨⟨k.kept.os.trans h.kept.os, k.kept.tape.trans h.kept.tape, k.kept.output.trans h.kept.output, Nat.le_trans h.kept.size k.kept.size, fun b hb hn => by
    have h0 : τ b = 0 := Classical.byContradiction hn
    exact (k.kept.block b (Nat.lt_of_lt_of_le hb h.kept.size) (fun hs => hs (h.tag b hb h0))).trans (h.kept.block b hb hn)⟩,
   fun b hb h0 => k.tag b (Nat.lt_of_lt_of_le hb h.kept.size) (h.tag b hb h0)⟩
theorem Stp.of_step (h : Step R τ τ' w w') (hn : ¬ R 0) : Stp τ τ' w w' :=
  ⟨⟨h.kept.os, h.kept.tape, h.kept.output, h.kept.size, fun b hb h0 => h.kept.block b hb fun hr => by
    have : τ b = 0 := Classical.byContradiction h0
    rw [this] at hr; exact hn hr⟩, fun b hb h0 => by rw [h.tag b hb, h0]⟩
theorem Stp.of_below (τ : Nat → Nat) (h : Below w.heap.size w w') : Stp τ τ w w' := ⟨⟨h.os, h.tape, h.output, h.size, fun k hk _ => h.block k hk⟩, fun _ _ h => h⟩
theorem Stp.below {B : Nat} (h : Stp τ τ' w w') (hB : B ≤ w.heap.size) (hs : ∀ k, k < B → τ k = 0) : Below B w w' :=
  ⟨h.kept.os, h.kept.tape, h.kept.output, h.kept.size, fun k hk => h.kept.block k (Nat.lt_of_lt_of_le hk hB) (fun h0 => h0 (hs k hk))⟩
theorem Stp.alike {W : World} (h : Stp τ τ' w w') (he : W.heap = w'.heap) (h1 : W.os = w'.os) (h2 : W.tape = w'.tape) (h3 : W.output = w'.output) : Stp τ τ' w W :=
  h.trans (Stp.of_below τ' ⟨h1, h2, h3, by rw [he]; exact Nat.le_refl _, fun k _ => by rw [he]⟩)
end

/-! ### The data -/
structure Cl where
  ls : List Nat
  sp : Int
  fr : Int
structure Sd where
  cls : List Cl
  F : Nat → List (Nat × Nat)
  wo : List Int
  tr : List Nat
  ma : List Nat
  nx : Nat
  dp : List Nat
  wy : List Int
  lk : List Nat
  hp : List Nat
  pl : List Int
  sc : List Int
  ra : Int
  se : List Bool
  nu : List Nat
  co : List Int
  ch : Int
  pc : Int
  pt : Int
  pu : Int
  le : Int
  mo : Int
  gq : Nat
  gv : Value
  gk : Nat
  gu : Value
abbrev n32 (l : List Nat) : List Value := l.map fun (i : Nat) => Value.int .i32 (i : Int)
abbrev n64 (l : List Nat) : List Value := l.map fun (i : Nat) => Value.int .i64 (i : Int)
abbrev z8 (l : List Int) : List Value := l.map (Value.int .i8)
abbrev z32 (l : List Int) : List Value := l.map (Value.int .i32)
abbrev z64s (l : List Int) : List Value := l.map (Value.int .i64)
/-- The rows of numbers and truths, by the search's cells. -/
def rowOf (d : Sd) : Nat → TypeId × List Value
  | 2 => (137, z8 d.wo)
  | 3 => (138, n32 d.tr)
  | 4 => (3, n64 d.ma)
  | 6 => (21, n32 d.dp)
  | 7 => (21, z32 d.wy)
  | 8 => (138, n32 d.lk)
  | 9 => (21, n32 d.hp)
  | 10 => (21, z32 d.pl)
  | 11 => (2, z64s d.sc)
  | 13 => (4, d.se.map Value.bool)
  | 14 => (21, n32 d.nu)
  | 15 => (3, z64s d.co)
  | _ => (3, [])
def flat (k : Nat) : Bool := k == 2 || k == 3 || k == 4 || k == 6 || k == 7 || k == 8 || k == 9 || k == 10 || k == 11 || k == 13 || k == 14 || k == 15
def numOf (d : Sd) : Nat → Int
  | 5 => d.nx
  | 12 => d.ra
  | 16 => d.ch
  | 17 => d.pc
  | 18 => d.pt
  | 19 => d.pu
  | 20 => d.le
  | 21 => d.mo
  | _ => 0
def isnum (k : Nat) : Bool := k == 5 || k == 12 || k == 16 || k == 17 || k == 18 || k == 19 || k == 20 || k == 21
/-- Rows whose elements have more cells than one. -/
def RowN (τ : Nat → Nat) (r : Nat) (w : World) (e : TypeId) (s : Nat) (v : Value) (n : Nat) (xs : List Value) : Prop := w.ownsRow 0 e s v n xs ∧ ∀ g, v.ownBlock = some g → τ g = r
def watCells (l : List (Nat × Nat)) : List Value := l.flatMap fun a => [.int .i32 (a.1 : Int), .int .i32 (a.2 : Int)]
def clCells (l : List (Value × Cl)) : List Value := l.flatMap fun a => [a.1, .int .i64 a.2.sp, .int .i64 a.2.fr]
section
variable {R : Nat → Prop} {τ τ' : Nat → Nat} {r s n : Nat} {w w' : World} {e : TypeId} {v : Value} {xs : List Value}
theorem RowN.step (h : RowN τ r w e s v n xs) (k : Step R τ τ' w w') (hn : ¬ R r) : RowN τ' r w' e s v n xs := by
  rcases h.1.2 with ⟨h0, h1⟩ | ⟨g, cap, cur, h0, hb, hg, h1, h2, h3, h4⟩
  · exact ⟨⟨h.1.1, .inl ⟨h0, h1⟩⟩, fun g hg => by rw [h0] at hg; cases hg⟩
  · have hr := h.2 g (by rw [h0]; rfl)
    have hl := lt_of_heap hg
    refine ⟨⟨h.1.1, .inr ⟨g, cap, cur, h0, hb, (k.kept.block g hl (by rw [hr]; exact hn)).trans hg, h1, h2, h3, h4⟩⟩, fun b hb => ?_⟩
    rw [h0] at hb
    have : g = b := by simpa [Value.ownBlock] using hb
    subst this
    rw [k.tag g hl, hr]
end
structure Sx (B : Nat) (τ : Nat → Nat) (w : World) (p n : Nat) (d : Sd) (pcs : Array Value) : Prop where
  base : B ≤ w.heap.size
  low : ∀ b, b < B → τ b = 0
  blk : Blk τ 1 w p 136 pcs
  size : pcs.size = 22
  row : ∀ k, flat k = true → ∃ v, pcs[k]? = some v ∧ Row τ (k + 2) w (rowOf d k).1 v (rowOf d k).2
  num : ∀ k, isnum k = true → pcs[k]? = some (.int .i64 (numOf d k))
  cl : ∃ (v : Value) (cvs : List Value), pcs[0]? = some v ∧ cvs.length = d.cls.length ∧ RowN τ 2 w 206 3 v d.cls.length (clCells (cvs.zip d.cls)) ∧ ∀ (i : Nat) (c : Cl), d.cls[i]? = some c → ∃ u, (cvs[i]? = some u ∧ (i = d.gk → u = d.gu)) ∧ Row τ (101 + 2 * i) w 138 u (n32 c.ls)
  wat : ∃ (wb : Nat) (wvs : Array Value), pcs[1]? = some (.slice (some ⟨wb, 0, none⟩) (2 * n) (2 * n)) ∧ Blk τ 3 w wb 209 wvs ∧ wvs.size = 2 * n ∧ ∀ q, q < 2 * n → ∃ v, (wvs[q]? = some v ∧ (q = d.gq → v = d.gv)) ∧ RowN τ (100 + 2 * q) w 211 2 v (d.F q).length (watCells (d.F q))
def Sr (B : Nat) (τ : Nat → Nat) (w : World) (p n : Nat) (d : Sd) : Prop := ∃ pcs, Sx B τ w p n d pcs
theorem flat_le {k : Nat} (h : flat k = true) : 2 ≤ k ∧ k ≤ 15 := by
  simp only [flat, Bool.or_eq_true, beq_iff_eq] at h; omega
section
variable {R : Nat → Prop} {B : Nat} {τ τ' : Nat → Nat} {w w' : World} {p n : Nat} {d d' : Sd} {pcs : Array Value}
/-- All that a step does not touch. -/
theorem Sx.step (h : Sx B τ w p n d pcs) (k : Step R τ τ' w w') (hn : ∀ r, 1 ≤ r → ¬ R r) : Sx B τ' w' p n d pcs := by
  refine ⟨Nat.le_trans h.base k.kept.size, fun b hb => by rw [k.tag b (Nat.lt_of_lt_of_le hb h.base), h.low b hb], h.blk.step k (hn _ (by omega)), h.size, fun j hj => ?_, h.num, ?_, ?_⟩
  · obtain ⟨v, a, b⟩ := h.row j hj
    exact ⟨v, a, b.step k (hn _ (by omega))⟩
  · obtain ⟨v, cvs, a, b, c, e⟩ := h.cl
    exact ⟨v, cvs, a, b, c.step k (hn _ (by omega)), fun i x hx => by obtain ⟨u, f, g⟩ := e i x hx; exact ⟨u, f, g.step k (hn _ (by omega))⟩⟩
  · obtain ⟨wb, wvs, a, b, c, e⟩ := h.wat
    exact ⟨wb, wvs, a, b.step k (hn _ (by omega)), c, fun q hq => by obtain ⟨v, f, g⟩ := e q hq; exact ⟨v, f, g.step k (hn _ (by omega))⟩⟩
theorem Sr.below (h : Sr B τ w p n d) (k : Below w.heap.size w w') : Sr B τ w' p n d := by
  obtain ⟨pcs, h⟩ := h
  exact ⟨pcs, h.step (R := fun _ => False) (Step.of_below _ τ k) (fun _ _ h => h)⟩
theorem Sr.alike {W : World} (h : Sr B τ w p n d) (he : W.heap = w.heap) (h1 : W.os = w.os) (h2 : W.tape = w.tape) (h3 : W.output = w.output) : Sr B τ W p n d :=
  h.below ⟨h1, h2, h3, by rw [he]; exact Nat.le_refl _, fun k _ => by rw [he]⟩
theorem Sr.plt (h : Sr B τ w p n d) : p < w.heap.size := by obtain ⟨pcs, h⟩ := h; exact h.blk.lt
theorem Sr.pfree (h : Sr B τ w p n d) (i : Nat) : w.frozen? ⟨p, i, none⟩ = false := by obtain ⟨pcs, h⟩ := h; exact h.blk.free i
theorem Sr.num (h : Sr B τ w p n d) (k : Nat) (hk : isnum k = true) : w.cell? ⟨p, k, none⟩ = some (.int .i64 (numOf d k)) := by
  obtain ⟨pcs, h⟩ := h
  rw [h.blk.cell]; exact h.num k hk
/-- A row of the search, as it is found. -/
structure At (τ : Nat → Nat) (w : World) (p k : Nat) (e : TypeId) (xs : List Value) (g cap : Nat) : Prop where
  head : w.cell? ⟨p, k, none⟩ = some (.slice (some ⟨g, 0, none⟩) xs.length cap)
  cell : ∀ (i : Nat) (u : Value), xs[i]? = some u → w.cell? ⟨g, i, none⟩ = some u
  free : ∀ i, w.frozen? ⟨g, i, none⟩ = false
  lt : g < w.heap.size
  le : xs.length ≤ cap
  cap : cap ≤ 9223372036854775807
  role : τ g = k + 2
  ne : g ≠ p
theorem Sr.row (h : Sr B τ w p n d) (k : Nat) (hk : flat k = true) : ∃ A cap, w.cell? ⟨p, k, none⟩ = some (.slice A (rowOf d k).2.length cap) ∧ (0 < (rowOf d k).2.length → ∃ g, A = some ⟨g, 0, none⟩ ∧ At τ w p k (rowOf d k).1 (rowOf d k).2 g cap) := by
  obtain ⟨pcs, h⟩ := h
  obtain ⟨v, hv, hr⟩ := h.row k hk
  rcases hr.at with ⟨h0, h1⟩ | ⟨g, cap, cur, h0, hb, h1, h2, h3, h4⟩
  · refine ⟨none, 0, by rw [h.blk.cell, hv, h0, h1]; rfl, fun hl => by rw [h1] at hl; simp at hl⟩
  · subst h0
    have hc : w.cell? ⟨p, k, none⟩ = some (.slice (some ⟨g, 0, none⟩) (rowOf d k).2.length cap) := by rw [h.blk.cell, hv]
    refine ⟨_, cap, hc, fun _ => ⟨g, rfl, hc, fun i u hu => ?_, hb.free, hb.lt, h1, h2, hb.2, fun e => ?_⟩⟩
    · obtain ⟨g', cap', e1, _, e2, _⟩ := hr.cells i u hu
      injection e1 with e1 _ _
      injection e1 with e1; injection e1 with e1
      subst e1; exact e2
    · have := hb.2
      rw [e, h.blk.2] at this
      have := flat_le hk
      omega
/-- One cell of a row is written. -/
theorem Sr.put (h : Sr B τ w p n d) {k g cap i : Nat} {u : Value} {A : Option Addr} {m : Nat} (hk : flat k = true) (hc : w.cell? ⟨p, k, none⟩ = some (.slice (some ⟨g, 0, none⟩) m cap)) (hi : i < (rowOf d k).2.length)
    (h1 : rowOf d' k = ((rowOf d k).1, (rowOf d k).2.set i u)) (h2 : ∀ j, flat j = true → j ≠ k → rowOf d' j = rowOf d j) (h3 : ∀ j, isnum j = true → numOf d' j = numOf d j) (h4 : (d'.cls, d'.gk, d'.gu) = (d.cls, d.gk, d.gu)) (h5 : (d'.F, d'.gq, d'.gv) = (d.F, d.gq, d.gv)) :
    Sr B τ (w.setCell ⟨g, i, none⟩ u) p n d' ∧ Stp τ τ w (w.setCell ⟨g, i, none⟩ u) := by
  obtain ⟨pcs, h⟩ := h
  obtain ⟨v, hv, hr⟩ := h.row k hk
  have hkl := flat_le hk
  rw [h.blk.cell, hv] at hc
  injection hc with hc
  subst hc
  have hg : τ g = k + 2 := hr.2 g rfl
  obtain ⟨g', cap', e1, _⟩ := hr.cells i _ (List.getElem?_eq_getElem hi)
  injection e1 with _ e1 _
  subst e1
  have s : Step (fun r => r = k + 2) τ τ w (w.setCell ⟨g, i, none⟩ u) := Step.set _ _ hg
  refine ⟨⟨pcs, ⟨by simpa [World.setCell] using h.base, h.low, h.blk.step s (by omega), h.size, fun j hj => ?_, fun j hj => by rw [h3 j hj]; exact h.num j hj, ?_, ?_⟩⟩, Stp.of_step s (by omega)⟩
  · by_cases e : j = k
    · subst e
      rw [h1]
      exact ⟨_, hv, hr.store rfl hi u⟩
    · rw [h2 j hj e]
      obtain ⟨v', a, b⟩ := h.row j hj
      exact ⟨v', a, b.step s (by omega)⟩
  · simp only [Prod.mk.injEq] at h4
    rw [h4.1, h4.2.1, h4.2.2]
    obtain ⟨v', cvs, a, b, c, e⟩ := h.cl
    exact ⟨v', cvs, a, b, c.step s (by omega), fun i x hx => by obtain ⟨u, f, g⟩ := e i x hx; exact ⟨u, f, g.step s (by omega)⟩⟩
  · simp only [Prod.mk.injEq] at h5
    rw [h5.1, h5.2.1, h5.2.2]
    obtain ⟨wb, wvs, a, b, c, e⟩ := h.wat
    exact ⟨wb, wvs, a, b.step s (by omega), c, fun q hq => by obtain ⟨v, f, g⟩ := e q hq; exact ⟨v, f, g.step s (by omega)⟩⟩
/-- A number of the search's own is written. -/
theorem Sr.set (h : Sr B τ w p n d) {k : Nat} {u : Int} (hk : isnum k = true)
    (h1 : numOf d' k = u) (h2 : ∀ j, flat j = true → rowOf d' j = rowOf d j) (h3 : ∀ j, isnum j = true → j ≠ k → numOf d' j = numOf d j) (h4 : (d'.cls, d'.gk, d'.gu) = (d.cls, d.gk, d.gu)) (h5 : (d'.F, d'.gq, d'.gv) = (d.F, d.gq, d.gv)) :
    Sr B τ (w.setCell ⟨p, k, none⟩ (.int .i64 u)) p n d' ∧ Stp τ τ w (w.setCell ⟨p, k, none⟩ (.int .i64 u)) := by
  obtain ⟨pcs, h⟩ := h
  have s : Step (fun r => r = 1) τ τ w (w.setCell ⟨p, k, none⟩ (.int .i64 u)) := Step.set _ _ h.blk.2
  have hk2 : k < 22 ∧ k ≠ 0 ∧ k ≠ 1 ∧ flat k = false := by
    simp only [isnum, Bool.or_eq_true, beq_iff_eq] at hk
    rcases hk with ((((((rfl | rfl) | rfl) | rfl) | rfl) | rfl) | rfl) | rfl <;> decide
  refine ⟨⟨pcs.setIfInBounds k (.int .i64 u), ⟨by simpa [World.setCell] using h.base, h.low, h.blk.put k _, by simp [h.size], fun j hj => ?_, fun j hj => ?_, ?_, ?_⟩⟩, Stp.of_step s (by decide)⟩
  · rw [h2 j hj]
    obtain ⟨v', a, b⟩ := h.row j hj
    exact ⟨v', by rw [Array.getElem?_setIfInBounds_ne (fun e => by subst e; rw [hk2.2.2.2] at hj; cases hj)]; exact a, b.step s (by omega)⟩
  · by_cases e : j = k
    · subst e; rw [h1]; exact Array.getElem?_setIfInBounds_self_of_lt (by rw [h.size]; exact hk2.1)
    · rw [h3 j hj e, Array.getElem?_setIfInBounds_ne (fun e' => e e'.symm)]; exact h.num j hj
  · simp only [Prod.mk.injEq] at h4
    rw [h4.1, h4.2.1, h4.2.2]
    obtain ⟨v', cvs, a, b, c, e⟩ := h.cl
    exact ⟨v', cvs, by rw [Array.getElem?_setIfInBounds_ne hk2.2.1]; exact a, b, c.step s (by omega), fun i x hx => by obtain ⟨u, f, g⟩ := e i x hx; exact ⟨u, f, g.step s (by omega)⟩⟩
  · simp only [Prod.mk.injEq] at h5
    rw [h5.1, h5.2.1, h5.2.2]
    obtain ⟨wb, wvs, a, b, c, e⟩ := h.wat
    exact ⟨wb, wvs, by rw [Array.getElem?_setIfInBounds_ne hk2.2.2.1]; exact a, b.step s (by omega), c, fun q hq => by obtain ⟨v, f, g⟩ := e q hq; exact ⟨v, f, g.step s (by omega)⟩⟩
/-- A row's head is written: another row of that part stands there. -/
theorem Sx.head {v : Value} (h : Sx B τ w p n d pcs) {k : Nat} (hk : flat k = true) (hr : Row τ (k + 2) w (rowOf d' k).1 v (rowOf d' k).2) (h2 : ∀ j, flat j = true → j ≠ k → rowOf d' j = rowOf d j) (h3 : ∀ j, isnum j = true → numOf d' j = numOf d j) (h4 : (d'.cls, d'.gk, d'.gu) = (d.cls, d.gk, d.gu)) (h5 : (d'.F, d'.gq, d'.gv) = (d.F, d.gq, d.gv)) :
    Sr B τ (w.setCell ⟨p, k, none⟩ v) p n d' ∧ Stp τ τ w (w.setCell ⟨p, k, none⟩ v) := by
  have s : Step (fun r => r = 1) τ τ w (w.setCell ⟨p, k, none⟩ v) := Step.set _ _ h.blk.2
  have hk2 := flat_le hk
  refine ⟨⟨pcs.setIfInBounds k v, ⟨by simpa [World.setCell] using h.base, h.low, h.blk.put k _, by simp [h.size], fun j hj => ?_, fun j hj => ?_, ?_, ?_⟩⟩, Stp.of_step s (by decide)⟩
  · by_cases e : j = k
    · subst e
      exact ⟨v, Array.getElem?_setIfInBounds_self_of_lt (by rw [h.size]; omega), hr.step s (by omega)⟩
    · rw [h2 j hj e]
      obtain ⟨v', a, b⟩ := h.row j hj
      exact ⟨v', by rw [Array.getElem?_setIfInBounds_ne (fun e' => e e'.symm)]; exact a, b.step s (by omega)⟩
  · have hjk : j ≠ k := fun e => by
      subst e
      simp only [isnum, flat, Bool.or_eq_true, beq_iff_eq] at hk hj
      omega
    rw [h3 j hj, Array.getElem?_setIfInBounds_ne (fun e' => hjk e'.symm)]; exact h.num j hj
  · simp only [Prod.mk.injEq] at h4
    rw [h4.1, h4.2.1, h4.2.2]
    obtain ⟨v', cvs, a, b, c, e⟩ := h.cl
    exact ⟨v', cvs, by rw [Array.getElem?_setIfInBounds_ne (by omega)]; exact a, b, c.step s (by omega), fun i x hx => by obtain ⟨u, f, g⟩ := e i x hx; exact ⟨u, f, g.step s (by omega)⟩⟩
  · simp only [Prod.mk.injEq] at h5
    rw [h5.1, h5.2.1, h5.2.2]
    obtain ⟨wb, wvs, a, b, c, e⟩ := h.wat
    exact ⟨wb, wvs, by rw [Array.getElem?_setIfInBounds_ne (by omega)]; exact a, b.step s (by omega), c, fun q hq => by obtain ⟨v, f, g⟩ := e q hq; exact ⟨v, f, g.step s (by omega)⟩⟩
/-- A row is cut: less of it counts. -/
theorem Sr.cut (h : Sr B τ w p n d) {k m cap m0 : Nat} {A : Option Addr} (hk : flat k = true) (hc : w.cell? ⟨p, k, none⟩ = some (.slice A m0 cap)) (hm : m ≤ (rowOf d k).2.length) (hA : A = none → m = 0 ∧ cap = 0)
    (h1 : rowOf d' k = ((rowOf d k).1, (rowOf d k).2.take m)) (h2 : ∀ j, flat j = true → j ≠ k → rowOf d' j = rowOf d j) (h3 : ∀ j, isnum j = true → numOf d' j = numOf d j) (h4 : (d'.cls, d'.gk, d'.gu) = (d.cls, d.gk, d.gu)) (h5 : (d'.F, d'.gq, d'.gv) = (d.F, d.gq, d.gv)) :
    Sr B τ (w.setCell ⟨p, k, none⟩ (.slice A m cap)) p n d' ∧ Stp τ τ w (w.setCell ⟨p, k, none⟩ (.slice A m cap)) := by
  obtain ⟨pcs, h⟩ := h
  obtain ⟨v, hv, hr⟩ := h.row k hk
  rw [h.blk.cell, hv] at hc
  injection hc with hc
  subst hc
  refine h.head hk ?_ h2 h3 h4 h5
  rw [h1]
  have hl : ((rowOf d k).2.take m).length = m := by rw [List.length_take]; omega
  rcases hr.at with ⟨h0, h1⟩ | ⟨g, cap', cur, h0, hb, h1, h2, h3, h4⟩
  · injection h0 with h0 h6 h7
    obtain ⟨rfl, _⟩ := hA h0
    subst h0; subst h7
    refine ⟨⟨by rw [Nat.mul_one], .inl ⟨rfl, by simp⟩⟩, fun g hg => by cases hg⟩
  · injection h0 with h0 h6 h7
    subst h0; subst h7
    have := Row.mk' (xs := (rowOf d k).2.take m) hb (by omega) h2 h3 (by rw [hl, ← h4, List.take_take, Nat.min_eq_left hm])
    rw [hl] at this; exact this
/-- A row has grown by one behind its end; its head is written. -/
theorem Sr.grow (h : Sr B τ w p n d) {k m g cap c0 : Nat} {A : Option Addr} {x : Value} {w' : World} (hk : flat k = true) (hc : w.cell? ⟨p, k, none⟩ = some (.slice A m c0)) (hg : w.grownBy w' (Value.slice A m c0).ownBlock)
    (hown : w'.ownsRow 0 (rowOf d k).1 1 (.slice (some ⟨g, 0, none⟩) (m + 1) cap) (m + 1) ((rowOf d k).2 ++ [x])) (hat : (Value.slice A m c0).ownBlock = some g ∨ w.heap.size ≤ g)
    (h1 : rowOf d' k = ((rowOf d k).1, (rowOf d k).2 ++ [x])) (h2 : ∀ j, flat j = true → j ≠ k → rowOf d' j = rowOf d j) (h3 : ∀ j, isnum j = true → numOf d' j = numOf d j) (h4 : (d'.cls, d'.gk, d'.gu) = (d.cls, d.gk, d.gu)) (h5 : (d'.F, d'.gq, d'.gv) = (d.F, d.gq, d.gv)) :
    (w'.cell? ⟨p, k, none⟩ = w.cell? ⟨p, k, none⟩ ∧ w'.frozen? ⟨p, k, none⟩ = false) ∧ ∃ τ', Sr B τ' (w'.setCell ⟨p, k, none⟩ (.slice (some ⟨g, 0, none⟩) (m + 1) cap)) p n d' ∧ Stp τ τ' w (w'.setCell ⟨p, k, none⟩ (.slice (some ⟨g, 0, none⟩) (m + 1) cap)) := by
  obtain ⟨pcs, h⟩ := h
  obtain ⟨v, hv, hr⟩ := h.row k hk
  have hc0 := hc
  rw [h.blk.cell, hv] at hc
  injection hc with hc
  subst hc
  have hkl := flat_le hk
  have hm : m = (rowOf d k).2.length := by have := hr.1.1; have := hown.1; simp at this; omega
  have s : Step (fun r => r = k + 2) τ (fun b => if b = g then k + 2 else τ b) w w' := Step.of_grown hg (fun b hb => hr.2 b hb) (hat.imp (fun e => hr.2 g e) id) rfl
  have hp := h.blk.step s (by omega)
  have hx : Sx B (fun b => if b = g then k + 2 else τ b) w' p n { d with cls := d.cls } pcs ∨ True := .inr trivial
  refine ⟨⟨by rw [hp.cell, h.blk.cell], hp.free k⟩, fun b => if b = g then k + 2 else τ b, ?_⟩
  -- the other rows, and this one as it has grown
  have rown : Row (fun b => if b = g then k + 2 else τ b) (k + 2) w' (rowOf d k).1 (.slice (some ⟨g, 0, none⟩) (m + 1) cap) ((rowOf d k).2 ++ [x]) :=
    ⟨by rw [show ((rowOf d k).2 ++ [x]).length = m + 1 by simp; omega]; exact hown, fun b hb => by injection hb with hb; subst hb; simp⟩
  have s2 : Step (fun r => r = 1) (fun b => if b = g then k + 2 else τ b) (fun b => if b = g then k + 2 else τ b) w' (w'.setCell ⟨p, k, none⟩ (.slice (some ⟨g, 0, none⟩) (m + 1) cap)) := Step.set _ _ hp.2
  have st := (Stp.of_step s (by omega)).trans (Stp.of_step s2 (by decide))
  refine ⟨⟨pcs.setIfInBounds k (.slice (some ⟨g, 0, none⟩) (m + 1) cap), ⟨Nat.le_trans h.base st.kept.size, fun b hb => st.tag b (Nat.lt_of_lt_of_le hb h.base) (h.low b hb), hp.put k _, by simp [h.size], fun j hj => ?_, fun j hj => ?_, ?_, ?_⟩⟩, st⟩
  · by_cases e : j = k
    · subst e
      rw [h1]
      exact ⟨_, Array.getElem?_setIfInBounds_self_of_lt (by rw [h.size]; omega), rown.step s2 (by omega)⟩
    · rw [h2 j hj e]
      obtain ⟨v', a, b⟩ := h.row j hj
      exact ⟨v', by rw [Array.getElem?_setIfInBounds_ne (fun e' => e e'.symm)]; exact a, (b.step s (by omega)).step s2 (by omega)⟩
  · have hjk : j ≠ k := fun e => by
      subst e
      simp only [isnum, flat, Bool.or_eq_true, beq_iff_eq] at hk hj
      omega
    rw [h3 j hj, Array.getElem?_setIfInBounds_ne (fun e' => hjk e'.symm)]; exact h.num j hj
  · simp only [Prod.mk.injEq] at h4
    rw [h4.1, h4.2.1, h4.2.2]
    obtain ⟨v', cvs, a, b, c, e⟩ := h.cl
    exact ⟨v', cvs, by rw [Array.getElem?_setIfInBounds_ne (by omega)]; exact a, b, (c.step s (by omega)).step s2 (by omega), fun i x hx => by obtain ⟨u, f, g⟩ := e i x hx; exact ⟨u, f, (g.step s (by omega)).step s2 (by omega)⟩⟩
  · simp only [Prod.mk.injEq] at h5
    rw [h5.1, h5.2.1, h5.2.2]
    obtain ⟨wb, wvs, a, b, c, e⟩ := h.wat
    exact ⟨wb, wvs, by rw [Array.getElem?_setIfInBounds_ne (by omega)]; exact a, (b.step s (by omega)).step s2 (by omega), c, fun q hq => by obtain ⟨v, f, g⟩ := e q hq; exact ⟨v, f, (g.step s (by omega)).step s2 (by omega)⟩⟩
end
end Go.Proofs.YtpmdnbdmocdngaaGreat
