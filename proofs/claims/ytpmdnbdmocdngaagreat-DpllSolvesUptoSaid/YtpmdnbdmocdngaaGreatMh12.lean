/-
  Parts of the proof, joined: DpllG, DpllW, DpllV.
-/
import Derived.Test.YtpmdnbdmocdngaaGreatMh11

namespace Go.Proofs.YtpmdnbdmocdngaaGreat
open Go.ChangeShapes Go.WideShapes Go.ChangeAt Go.RowKit
set_option linter.unusedVariables false
set_option linter.unusedSimpArgs false

theorem flat_at {α : Type} {f : α → List Value} {s : Nat} (hs : ∀ a, (f a).length = s) : ∀ (l : List α) (i j : Nat) (a : α), l[i]? = some a → j < s → (l.flatMap f)[i * s + j]? = (f a)[j]?
  | [], i, j, a, h, _ => by simp at h
  | b :: l, 0, j, a, h, hj => by
    have : b = a := by simpa using h
    subst this
    rw [List.flatMap_cons, Nat.zero_mul, Nat.zero_add, List.getElem?_append_left (by rw [hs]; exact hj)]
  | b :: l, i + 1, j, a, h, hj => by
    have e : (i + 1) * s + j = s + (i * s + j) := by rw [Nat.add_mul]; omega
    rw [List.flatMap_cons, e, List.getElem?_append_right (by rw [hs]; omega), hs, Nat.add_sub_cancel_left]
    exact flat_at hs l i j a (by simpa using h) hj
theorem flat_set {α : Type} {f : α → List Value} {s : Nat} (hs : ∀ a, (f a).length = s) {v : Value} : ∀ (l : List α) (i j : Nat) (a a' : α), l[i]? = some a → j < s → f a' = (f a).set j v → (l.flatMap f).set (i * s + j) v = (l.set i a').flatMap f
  | [], i, j, a, a', h, _, _ => by simp at h
  | b :: l, 0, j, a, a', h, hj, he => by
    have : b = a := by simpa using h
    subst this
    rw [List.flatMap_cons, Nat.zero_mul, Nat.zero_add, List.set_append_left _ _ (by rw [hs]; exact hj), List.set_cons_zero, List.flatMap_cons, he]
  | b :: l, i + 1, j, a, a', h, hj, he => by
    have e : (i + 1) * s + j = s + (i * s + j) := by rw [Nat.add_mul]; omega
    rw [List.flatMap_cons, e, List.set_append_right _ _ (by rw [hs]; omega), hs, Nat.add_sub_cancel_left, List.set_cons_succ, List.flatMap_cons, flat_set hs l i j a a' (by simpa using h) hj he]
theorem cl_len (a : Value × Cl) : ([a.1, .int .i64 a.2.sp, .int .i64 a.2.fr] : List Value).length = 3 := rfl
theorem wat_len (a : Nat × Nat) : ([.int .i32 (a.1 : Int), .int .i32 (a.2 : Int)] : List Value).length = 2 := rfl
theorem flat_len {α : Type} {f : α → List Value} {s : Nat} (hs : ∀ a, (f a).length = s) : ∀ l : List α, (l.flatMap f).length = l.length * s
  | [] => by simp
  | a :: l => by rw [List.flatMap_cons, List.length_append, hs, flat_len hs l, List.length_cons, Nat.add_mul]; omega
section
variable {R : Nat → Prop} {τ τ' : Nat → Nat} {r s n : Nat} {w w' : World} {e : TypeId} {v : Value} {xs : List Value} {g cap i : Nat}
theorem RowN.at (h : RowN τ r w e s v n xs) : (v = .slice none 0 0 ∧ n = 0) ∨ ∃ g cap cur, v = .slice (some ⟨g, 0, none⟩) n cap ∧ Blk τ r w g e cur ∧ n ≤ cap ∧ cap ≤ 9223372036854775807 ∧ cur.size = cap * s ∧ cur.toList.take (n * s) = xs := by
  rcases h.1.2 with ⟨h0, h1⟩ | ⟨g, cap, cur, h0, _, hg, h1, h2, h3, h4⟩
  · exact .inl ⟨h0, h1⟩
  · exact .inr ⟨g, cap, cur, h0, ⟨hg, h.2 g (by rw [h0]; rfl)⟩, h1, by unfold maxLen at h2; exact h2, h3, h4⟩
theorem RowN.cell (h : RowN τ r w e s (.slice (some ⟨g, 0, none⟩) n cap) n xs) {u : Value} (hu : xs[i]? = some u) : w.cell? ⟨g, i, none⟩ = some u := by
  have hi := (List.getElem?_eq_some_iff.1 hu).1
  have hl := h.1.1
  rcases h.at with ⟨h0, _⟩ | ⟨g', cap', cur, h0, hb, h1, h2, h3, h4⟩
  · cases h0
  · injection h0 with h0 _ _; injection h0 with h0; injection h0 with h0; subst h0
    rw [hb.cell, ← hu, ← h4, List.getElem?_take_of_lt (by omega)]; simp
theorem RowN.store (h : RowN τ r w e s (.slice (some ⟨g, 0, none⟩) n cap) n xs) (hi : i < n * s) (u : Value) : RowN τ r (w.setCell ⟨g, i, none⟩ u) e s (.slice (some ⟨g, 0, none⟩) n cap) n (xs.set i u) := by
  have hl := h.1.1
  rcases h.at with ⟨h0, _⟩ | ⟨g', cap', cur, h0, hb, h1, h2, h3, h4⟩
  · cases h0
  · injection h0 with h0 _ h5; injection h0 with h0; injection h0 with h0; subst h0; subst h5
    refine ⟨⟨by rw [List.length_set]; exact hl, .inr ⟨g, cap, _, rfl, Nat.zero_le _, (hb.put i u).1, h1, by unfold maxLen; exact h2, by simp; exact h3, by rw [Array.toList_setIfInBounds, List.take_set, h4]⟩⟩, fun b hb2 => ?_⟩
    injection hb2 with hb2; subst hb2; exact hb.2
end
/-- A claim, as it is found. -/
structure Cla (τ : Nat → Nat) (w : World) (p m k : Nat) (c : Cl) (ga capa gl capl : Nat) : Prop where
  head : w.cell? ⟨p, 0, none⟩ = some (.slice (some ⟨ga, 0, none⟩) m capa)
  hk : k < m
  le : m ≤ capa
  mx : capa ≤ 9223372036854775807
  lit : w.cell? ⟨ga, k * 3, none⟩ = some (.slice (some ⟨gl, 0, none⟩) c.ls.length capl)
  sp : w.cell? ⟨ga, k * 3 + 1, none⟩ = some (.int .i64 c.sp)
  fr : w.cell? ⟨ga, k * 3 + 2, none⟩ = some (.int .i64 c.fr)
  afree : ∀ i, w.frozen? ⟨ga, i, none⟩ = false
  alt : ga < w.heap.size
  arole : τ ga = 2
  cell : ∀ (i q : Nat), c.ls[i]? = some q → w.cell? ⟨gl, i, none⟩ = some (.int .i32 (q : Int))
  lfree : ∀ i, w.frozen? ⟨gl, i, none⟩ = false
  llt : gl < w.heap.size
  lle : c.ls.length ≤ capl
  lmx : capl ≤ 9223372036854775807
  lrole : τ gl = 101 + 2 * k
  prole : τ p = 1
section
variable {R : Nat → Prop} {B : Nat} {τ τ' : Nat → Nat} {w w' : World} {p n k m : Nat} {d d' : Sd} {c : Cl} {ga capa gl capl : Nat}
theorem Sr.claim (h : Sr B τ w p n d) (hk : d.cls[k]? = some c) (hl : 0 < c.ls.length) : ∃ ga capa gl capl, Cla τ w p d.cls.length k c ga capa gl capl := by
  obtain ⟨pcs, h⟩ := h
  obtain ⟨v, cvs, h0, h1, h2, h3⟩ := h.cl
  have hkl := (List.getElem?_eq_some_iff.1 hk).1
  obtain ⟨u, ⟨hu, hup⟩, hr⟩ := h3 k c hk
  rcases h2.at with ⟨_, e⟩ | ⟨ga, capa, cur, e, hb, e1, e2, e3, e4⟩
  · omega
  subst e
  have hz : (cvs.zip d.cls)[k]? = some (u, c) := by rw [List.getElem?_zip_eq_some]; exact ⟨hu, hk⟩
  rcases hr.at with ⟨_, e⟩ | ⟨gl, capl, cur2, e, hb2, q1, q2, q3, q4⟩
  · rw [List.map_eq_nil_iff] at e; rw [e] at hl; simp at hl
  have ql : (n32 c.ls).length = c.ls.length := by simp
  rw [ql] at e q1
  subst e
  have hc : ∀ j u', j < 3 → ([.slice (some ⟨gl, 0, none⟩) c.ls.length capl, .int .i64 c.sp, .int .i64 c.fr] : List Value)[j]? = some u' → w.cell? ⟨ga, k * 3 + j, none⟩ = some u' := fun j u' hj hu' =>
    h2.cell ((flat_at cl_len _ k j _ hz hj).trans hu')
  refine ⟨ga, capa, gl, capl, by rw [h.blk.cell, h0], hkl, e1, e2, hc 0 _ (by decide) rfl, hc 1 _ (by decide) rfl, hc 2 _ (by decide) rfl, hb.free, hb.lt, hb.2, fun i q hq => ?_, hb2.free, hb2.lt, q1, q2, hb2.2, h.blk.2⟩
  obtain ⟨g', cap', e5, _, e6, _⟩ := hr.cells i (.int .i32 (q : Int)) (by simp [hq])
  injection e5 with e5 _ _; injection e5 with e5; injection e5 with e5; subst e5; exact e6
theorem Cla.step (a : Cla τ w p m k c ga capa gl capl) (hp : p < w.heap.size) (s : Step R τ τ' w w') (h1 : ¬ R 1) (h2 : ¬ R 2) (h3 : ¬ R (101 + 2 * k)) : Cla τ' w' p m k c ga capa gl capl := by
  have kp := s.kept.block p hp (by rw [a.prole]; exact h1)
  have ka := s.kept.block ga a.alt (by rw [a.arole]; exact h2)
  have kl := s.kept.block gl a.llt (by rw [a.lrole]; exact h3)
  refine ⟨(World.cell?_of_block kp).trans a.head, a.hk, a.le, a.mx, (World.cell?_of_block ka).trans a.lit, (World.cell?_of_block ka).trans a.sp, (World.cell?_of_block ka).trans a.fr, fun i => ?_, Nat.lt_of_lt_of_le a.alt s.kept.size, by rw [s.tag _ a.alt]; exact a.arole, fun i q hq => (World.cell?_of_block kl).trans (a.cell i q hq), fun i => ?_, Nat.lt_of_lt_of_le a.llt s.kept.size, a.lle, a.lmx, by rw [s.tag _ a.llt]; exact a.lrole, by rw [s.tag _ hp]; exact a.prole⟩
  · rw [World.frozen?_of_block ka]; exact a.afree i
  · rw [World.frozen?_of_block kl]; exact a.lfree i
theorem Cla.put_lit (a : Cla τ w p m k c ga capa gl capl) {i x : Nat} (hi : i < c.ls.length) : Cla τ (w.setCell ⟨gl, i, none⟩ (.int .i32 (x : Int))) p m k { c with ls := c.ls.set i x } ga capa gl capl := by
  have np : p ≠ gl := fun e => by have h1 := a.prole; have h2 := a.lrole; rw [e, h2] at h1; omega
  have na : ga ≠ gl := fun e => by have h1 := a.arole; have h2 := a.lrole; rw [e, h2] at h1; omega
  have kp := set_other (w := w) (u := .int .i32 (x : Int)) (p := ⟨gl, i, none⟩) np
  have ka := set_other (w := w) (u := .int .i32 (x : Int)) (p := ⟨gl, i, none⟩) na
  refine ⟨(World.cell?_of_block kp).trans a.head, a.hk, a.le, a.mx, ?_, (World.cell?_of_block ka).trans a.sp, (World.cell?_of_block ka).trans a.fr, fun j => ?_, by simpa [World.setCell] using a.alt, a.arole, fun j q hq => ?_, fun j => ?_, by simpa [World.setCell] using a.llt, by rw [List.length_set]; exact a.lle, a.lmx, a.lrole, a.prole⟩
  · rw [List.length_set]; exact (World.cell?_of_block ka).trans a.lit
  · rw [World.frozen?_of_block ka]; exact a.afree j
  · by_cases e : i = j
    · subst e
      rw [List.getElem?_set_self hi] at hq
      injection hq with hq; subst hq
      exact World.cell?_setCell_same _ _ _ (a.cell i _ (List.getElem?_eq_getElem hi))
    · rw [List.getElem?_set_ne e] at hq
      exact (World.cell?_setCell_other w ⟨gl, i, none⟩ ⟨gl, j, none⟩ _ (by intro e2; injection e2 with _ e2; exact e e2)).trans (a.cell j q hq)
  · have := a.lfree j
    unfold World.frozen? at this ⊢
    obtain ⟨cs, t, fr, hb⟩ : ∃ cs t fr, w.heap[gl]? = some (.cells cs t fr) := by
      have := a.cell i _ (List.getElem?_eq_getElem hi)
      unfold World.cell? at this
      split at this
      · rename_i cs t fr hb; exact ⟨cs, t, fr, hb⟩
      · cases this
    have h2 : (w.setCell ⟨gl, i, none⟩ (.int .i32 (x : Int))).heap[gl]? = some (.cells (cs.setIfInBounds i (.int .i32 (x : Int))) t fr) := by
      simp only [World.setCell, Array.getElem?_modify, hb, if_true]; simp
    rw [hb] at this
    rw [h2]; exact this
theorem Cla.put_fr (a : Cla τ w p m k c ga capa gl capl) (x : Int) : Cla τ (w.setCell ⟨ga, k * 3 + 2, none⟩ (.int .i64 x)) p m k { c with fr := x } ga capa gl capl := by
  have np : p ≠ ga := fun e => by have h1 := a.prole; have h2 := a.arole; rw [e, h2] at h1; omega
  have nl : gl ≠ ga := fun e => by have h1 := a.arole; have h2 := a.lrole; rw [← e, h2] at h1; omega
  have kp := set_other (w := w) (u := .int .i64 x) (p := ⟨ga, k * 3 + 2, none⟩) np
  have kl := set_other (w := w) (u := .int .i64 x) (p := ⟨ga, k * 3 + 2, none⟩) nl
  have other : ∀ j, j ≠ k * 3 + 2 → (w.setCell ⟨ga, k * 3 + 2, none⟩ (.int .i64 x)).cell? ⟨ga, j, none⟩ = w.cell? ⟨ga, j, none⟩ := fun j hj => World.cell?_setCell_other w ⟨ga, k * 3 + 2, none⟩ ⟨ga, j, none⟩ _ (by intro e2; injection e2 with _ e2; exact hj e2.symm)
  refine ⟨(World.cell?_of_block kp).trans a.head, a.hk, a.le, a.mx, (other _ (by omega)).trans a.lit, (other _ (by omega)).trans a.sp, World.cell?_setCell_same _ _ _ a.fr, fun j => ?_, by simpa [World.setCell] using a.alt, a.arole, fun j q hq => (World.cell?_of_block kl).trans (a.cell j q hq), fun j => ?_, by simpa [World.setCell] using a.llt, a.lle, a.lmx, a.lrole, a.prole⟩
  · have := a.afree j
    unfold World.frozen? at this ⊢
    obtain ⟨cs, t, fr, hb⟩ : ∃ cs t fr, w.heap[ga]? = some (.cells cs t fr) := by
      have := a.fr
      unfold World.cell? at this
      split at this
      · rename_i cs t fr hb; exact ⟨cs, t, fr, hb⟩
      · cases this
    have h2 : (w.setCell ⟨ga, k * 3 + 2, none⟩ (.int .i64 x)).heap[ga]? = some (.cells (cs.setIfInBounds (k * 3 + 2) (.int .i64 x)) t fr) := by
      simp only [World.setCell, Array.getElem?_modify, hb, if_true]; simp
    rw [hb] at this
    rw [h2]; exact this
  · rw [World.frozen?_of_block kl]; exact a.lfree j
theorem Cla.alike {W : World} (a : Cla τ w p m k c ga capa gl capl) (hp : p < w.heap.size) (he : W.heap = w.heap) (h1 : W.os = w.os) (h2 : W.tape = w.tape) (h3 : W.output = w.output) : Cla τ W p m k c ga capa gl capl :=
  a.step (R := fun _ => False) hp (Step.of_below _ τ ⟨h1, h2, h3, by rw [he]; exact Nat.le_refl _, fun k _ => by rw [he]⟩) id id id
theorem Cla.len (a : Cla τ w p m k c ga capa gl capl) (h : Sr B τ w p n d) : m = d.cls.length := by
  obtain ⟨pcs, h⟩ := h
  obtain ⟨v, cvs, h0, h1, h2, h3⟩ := h.cl
  have e0 := a.head
  rw [h.blk.cell, h0] at e0
  injection e0 with e0
  subst e0
  rcases h2.at with ⟨e, _⟩ | ⟨_, _, _, e, _⟩
  · cases e
  · injection e
theorem zip_set {α β : Type} : ∀ (a : List α) (b : List β) (k : Nat) (x : α) (y : β), a[k]? = some x → a.zip (b.set k y) = (a.zip b).set k (x, y)
  | [], b, k, x, y, h => by simp at h
  | a :: l, [], k, x, y, h => by simp
  | a :: l, b :: m, 0, x, y, h => by
    have : a = x := by simpa using h
    subst this; rfl
  | a :: l, b :: m, k + 1, x, y, h => by
    rw [List.set_cons_succ, List.zip_cons_cons, List.zip_cons_cons, List.set_cons_succ, zip_set l m k x y (by simpa using h)]
/-- Where another is looked for first, written. -/
theorem Sr.put_fr (h : Sr B τ w p n d) (a : Cla τ w p m k c ga capa gl capl) (hk : d.cls[k]? = some c) (x : Int) :
    Sr B τ (w.setCell ⟨ga, k * 3 + 2, none⟩ (.int .i64 x)) p n { d with cls := d.cls.set k { c with fr := x } } ∧ Stp τ τ w (w.setCell ⟨ga, k * 3 + 2, none⟩ (.int .i64 x)) := by
  obtain rfl := a.len h
  obtain ⟨pcs, h⟩ := h
  obtain ⟨v, cvs, h0, h1, h2, h3⟩ := h.cl
  have hkl := (List.getElem?_eq_some_iff.1 hk).1
  obtain ⟨u, ⟨hu, hup⟩, hr⟩ := h3 k c hk
  have e0 := a.head
  rw [h.blk.cell, h0] at e0
  injection e0 with e0
  subst e0
  have s : Step (fun r => r = 2) τ τ w (w.setCell ⟨ga, k * 3 + 2, none⟩ (.int .i64 x)) := Step.set _ _ a.arole
  refine ⟨⟨pcs, ⟨by simpa [World.setCell] using h.base, h.low, h.blk.step s (by decide), h.size, fun j hj => ?_, h.num, ?_, ?_⟩⟩, Stp.of_step s (by decide)⟩
  · obtain ⟨v', a, b⟩ := h.row j hj
    have := flat_le hj
    exact ⟨v', a, b.step s (by omega)⟩
  · have hz : (cvs.zip d.cls)[k]? = some (u, c) := by rw [List.getElem?_zip_eq_some]; exact ⟨hu, hk⟩
    refine ⟨_, cvs, h0, by show cvs.length = (d.cls.set k _).length; rw [List.length_set]; exact h1, ?_, fun i c' hc' => ?_⟩
    · have := h2.store (i := k * 3 + 2) (by omega) (.int .i64 x)
      show RowN τ 2 _ _ 3 _ (d.cls.set k _).length _
      rw [List.length_set]
      unfold clCells at this ⊢
      rw [flat_set cl_len (cvs.zip d.cls) k 2 (u, c) (u, { c with fr := x }) hz (by decide) rfl, ← zip_set cvs d.cls k u _ hu] at this
      exact this
    · by_cases e : i = k
      · subst e
        rw [show ({ d with cls := d.cls.set i { c with fr := x } } : Sd).cls = d.cls.set i { c with fr := x } from rfl, List.getElem?_set_self hkl] at hc'
        injection hc' with hc'; subst hc'
        exact ⟨u, ⟨hu, hup⟩, hr.step s (by omega)⟩
      · rw [show ({ d with cls := d.cls.set k { c with fr := x } } : Sd).cls = d.cls.set k { c with fr := x } from rfl, List.getElem?_set_ne (fun e' => e e'.symm)] at hc'
        obtain ⟨u', f, g⟩ := h3 i c' hc'
        exact ⟨u', f, g.step s (by omega)⟩
  · obtain ⟨wb, wvs, a, b, c, e⟩ := h.wat
    exact ⟨wb, wvs, a, b.step s (by omega), c, fun q hq => by obtain ⟨v, f, g⟩ := e q hq; exact ⟨v, f, g.step s (by omega)⟩⟩
/-- One literal of a claim, written. -/
theorem Sr.put_lit (h : Sr B τ w p n d) (a : Cla τ w p m k c ga capa gl capl) (hk : d.cls[k]? = some c) {i : Nat} (hi : i < c.ls.length) (x : Nat) :
    Sr B τ (w.setCell ⟨gl, i, none⟩ (.int .i32 (x : Int))) p n { d with cls := d.cls.set k { c with ls := c.ls.set i x } } ∧ Stp τ τ w (w.setCell ⟨gl, i, none⟩ (.int .i32 (x : Int))) := by
  obtain rfl := a.len h
  obtain ⟨pcs, h⟩ := h
  obtain ⟨v, cvs, h0, h1, h2, h3⟩ := h.cl
  have hkl := (List.getElem?_eq_some_iff.1 hk).1
  obtain ⟨u, ⟨hu, hup⟩, hr⟩ := h3 k c hk
  have hz : (cvs.zip d.cls)[k]? = some (u, c) := by rw [List.getElem?_zip_eq_some]; exact ⟨hu, hk⟩
  have e0 := a.head
  rw [h.blk.cell, h0] at e0
  injection e0 with e0
  subst e0
  have eu : u = .slice (some ⟨gl, 0, none⟩) c.ls.length capl := by
    have := h2.cell ((flat_at cl_len _ k 0 _ hz (by decide)).trans (show ([u, .int .i64 c.sp, .int .i64 c.fr] : List Value)[0]? = some u from rfl))
    rw [Nat.add_zero, a.lit] at this
    injection this with this; exact this.symm
  subst eu
  have s : Step (fun r => r = 101 + 2 * k) τ τ w (w.setCell ⟨gl, i, none⟩ (.int .i32 (x : Int))) := Step.set _ _ a.lrole
  refine ⟨⟨pcs, ⟨by simpa [World.setCell] using h.base, h.low, h.blk.step s (by omega), h.size, fun j hj => ?_, h.num, ?_, ?_⟩⟩, Stp.of_step s (by omega)⟩
  · obtain ⟨v', a, b⟩ := h.row j hj
    have := flat_le hj
    exact ⟨v', a, b.step s (by omega)⟩
  · refine ⟨_, cvs, h0, by show cvs.length = (d.cls.set k _).length; rw [List.length_set]; exact h1, ?_, fun i' c' hc' => ?_⟩
    · show RowN τ 2 _ _ 3 _ (d.cls.set k _).length _
      rw [List.length_set]
      have := h2.step s (by omega)
      have e : clCells (cvs.zip (d.cls.set k { c with ls := c.ls.set i x })) = clCells (cvs.zip d.cls) := by
        rw [zip_set cvs d.cls k _ _ hu]
        unfold clCells
        have h6 := flat_set cl_len (cvs.zip d.cls) k 0 (Value.slice (some ⟨gl, 0, none⟩) c.ls.length capl, c) (Value.slice (some ⟨gl, 0, none⟩) c.ls.length capl, { c with ls := c.ls.set i x }) (v := Value.slice (some ⟨gl, 0, none⟩) c.ls.length capl) hz (by decide) rfl
        rw [← h6]
        refine List.ext_getElem? fun q => ?_
        by_cases hq : k * 3 + 0 = q
        · subst hq
          have := flat_at cl_len _ k 0 _ hz (by decide)
          rw [List.getElem?_set_self (by have := (List.getElem?_eq_some_iff.1 (this.trans rfl)).1; exact this), this]; rfl
        · rw [List.getElem?_set_ne hq]
      rw [e]; exact this
    · by_cases e : i' = k
      · subst e
        rw [show ({ d with cls := d.cls.set i' { c with ls := c.ls.set i x } } : Sd).cls = d.cls.set i' { c with ls := c.ls.set i x } from rfl, List.getElem?_set_self hkl] at hc'
        injection hc' with hc'; subst hc'
        refine ⟨_, ⟨hu, hup⟩, ?_⟩
        have := hr.store (g := gl) (cap := capl) (by simp) (i := i) (by simpa using hi) (.int .i32 (x : Int))
        show Row _ _ _ _ _ (n32 (c.ls.set i x))
        rw [show n32 (c.ls.set i x) = (n32 c.ls).set i (.int .i32 (x : Int)) from List.map_set]
        exact this
      · rw [show ({ d with cls := d.cls.set k { c with ls := c.ls.set i x } } : Sd).cls = d.cls.set k { c with ls := c.ls.set i x } from rfl, List.getElem?_set_ne (fun e' => e e'.symm)] at hc'
        obtain ⟨u', f, g⟩ := h3 i' c' hc'
        exact ⟨u', f, g.step s (by omega)⟩
  · obtain ⟨wb, wvs, a, b, c, e⟩ := h.wat
    exact ⟨wb, wvs, a, b.step s (by omega), c, fun q hq => by obtain ⟨v, f, g⟩ := e q hq; exact ⟨v, f, g.step s (by omega)⟩⟩
end
end Go.Proofs.YtpmdnbdmocdngaaGreat

namespace Go.Proofs.YtpmdnbdmocdngaaGreat
open Go.ChangeShapes Go.WideShapes Go.ChangeAt Go.RowKit
set_option linter.unusedVariables false
set_option linter.unusedSimpArgs false

/-- The watches of a literal, as they are found. -/
structure Wat (τ : Nat → Nat) (w : World) (p n q : Nat) (l : List (Nat × Nat)) (gw : Nat) (A : Option Addr) (cap : Nat) : Prop where
  head : w.cell? ⟨p, 1, none⟩ = some (.slice (some ⟨gw, 0, none⟩) (2 * n) (2 * n))
  at_ : w.cell? ⟨gw, q, none⟩ = some (.slice A l.length cap)
  wfree : ∀ i, w.frozen? ⟨gw, i, none⟩ = false
  wlt : gw < w.heap.size
  wrole : τ gw = 3
  own : w.ownsRow 0 211 2 (.slice A l.length cap) l.length (watCells l)
  cell : ∀ (i : Nat) (a : Nat × Nat), l[i]? = some a → ∃ g, A = some ⟨g, 0, none⟩ ∧ τ g = 100 + 2 * q ∧ w.cell? ⟨g, i * 2, none⟩ = some (.int .i32 (a.1 : Int)) ∧ w.cell? ⟨g, i * 2 + 1, none⟩ = some (.int .i32 (a.2 : Int)) ∧ g < w.heap.size ∧ l.length ≤ cap ∧ cap ≤ 9223372036854775807 ∧ ∀ j, w.frozen? ⟨g, j, none⟩ = false
  role : ∀ g, Value.ownBlock (.slice A l.length cap) = some g → τ g = 100 + 2 * q
section
variable {R : Nat → Prop} {B : Nat} {τ τ' : Nat → Nat} {w w' : World} {p n q : Nat} {d : Sd} {l l' : List (Nat × Nat)} {gw cap : Nat} {A : Option Addr} {v : Value}
theorem Sr.wat (h : Sr B τ w p n d) (hq : q < 2 * n) : ∃ gw A cap, Wat τ w p n q (d.F q) gw A cap := by
  obtain ⟨pcs, h⟩ := h
  obtain ⟨wb, wvs, a, b, c, e⟩ := h.wat
  obtain ⟨v, ⟨hv, _⟩, hr⟩ := e q hq
  have hc : w.cell? ⟨wb, q, none⟩ = some v := by rw [b.cell]; exact hv
  rcases hr.at with ⟨h0, h1⟩ | ⟨g, cap, cur, h0, hb, h1, h2, h3, h4⟩
  · subst h0
    refine ⟨wb, none, 0, by rw [h.blk.cell, a], by rw [hc, h1], b.free, b.lt, b.2, by rw [h1]; have := hr.1; rw [h1] at this; exact this, fun i x hx => ?_, fun g hg => by cases hg⟩
    have := (List.getElem?_eq_some_iff.1 hx).1; omega
  · subst h0
    refine ⟨wb, _, cap, by rw [h.blk.cell, a], hc, b.free, b.lt, b.2, hr.1, fun i x hx => ⟨g, rfl, hb.2, ?_, ?_, hb.lt, h1, h2, hb.free⟩, fun g hg => hr.2 g hg⟩
    · have := hr.cell (u := .int .i32 (x.1 : Int)) (i := i * 2 + 0) ((flat_at wat_len _ i 0 _ hx (by decide)).trans rfl)
      exact this
    · exact hr.cell (u := .int .i32 (x.2 : Int)) (i := i * 2 + 1) ((flat_at wat_len _ i 1 _ hx (by decide)).trans rfl)
/-- A row of watches has turned; its head is written. -/
theorem Sr.setF (h : Sr B τ w p n d) (hw : Wat τ w p n q (d.F q) gw A cap) (hq : q < 2 * n) (hgq : q ≠ d.gq) (s : Step (fun r => r = 100 + 2 * q) τ τ' w w') (hr : RowN τ' (100 + 2 * q) w' 211 2 v l'.length (watCells l')) :
    (w'.cell? ⟨gw, q, none⟩ = w.cell? ⟨gw, q, none⟩ ∧ w'.frozen? ⟨gw, q, none⟩ = false ∧ w'.cell? ⟨p, 1, none⟩ = w.cell? ⟨p, 1, none⟩) ∧ Sr B τ' (w'.setCell ⟨gw, q, none⟩ v) p n { d with F := fun r => if r = q then l' else d.F r } ∧ Stp τ τ' w (w'.setCell ⟨gw, q, none⟩ v) := by
  obtain ⟨pcs, h⟩ := h
  obtain ⟨wb, wvs, a, b, c, e⟩ := h.wat
  have e0 := hw.head
  rw [h.blk.cell, a] at e0
  injection e0 with e0; injection e0 with e0; injection e0 with e0; injection e0 with e0
  subst e0
  have b' := b.step s (by omega)
  have p' := h.blk.step s (by omega)
  have s2 : Step (fun r => r = 3) τ' τ' w' (w'.setCell ⟨wb, q, none⟩ v) := Step.set _ _ b'.2
  have st := (Stp.of_step s (by omega)).trans (Stp.of_step s2 (by decide))
  refine ⟨⟨by rw [b'.cell, b.cell], b'.free q, by rw [p'.cell, h.blk.cell]⟩, ⟨pcs, ⟨Nat.le_trans h.base st.kept.size, fun b hb => st.tag b (Nat.lt_of_lt_of_le hb h.base) (h.low b hb), p'.step s2 (by decide), h.size, fun j hj => ?_, h.num, ?_, ?_⟩⟩, st⟩
  · obtain ⟨v', a, b⟩ := h.row j hj
    have := flat_le hj
    exact ⟨v', a, (b.step s (by omega)).step s2 (by omega)⟩
  · obtain ⟨v', cvs, a, b, c, e⟩ := h.cl
    exact ⟨v', cvs, a, b, (c.step s (by omega)).step s2 (by omega), fun i x hx => by obtain ⟨u, f, g⟩ := e i x hx; exact ⟨u, f, (g.step s (by omega)).step s2 (by omega)⟩⟩
  · refine ⟨wb, wvs.setIfInBounds q v, a, b'.put q v, by simp [c], fun q' hq' => ?_⟩
    by_cases e1 : q' = q
    · subst e1
      refine ⟨v, ⟨Array.getElem?_setIfInBounds_self_of_lt (by omega), fun e => absurd e hgq⟩, ?_⟩
      simp only [if_true]
      exact hr.step s2 (by omega)
    · obtain ⟨v', f, g⟩ := e q' hq'
      refine ⟨v', ⟨by rw [Array.getElem?_setIfInBounds_ne (fun e' => e1 e'.symm)]; exact f.1, f.2⟩, ?_⟩
      simp only [if_neg e1]
      exact (g.step s (by omega)).step s2 (by omega)
/-- A row of watches has turned in place; its head is as it was. -/
theorem Sr.putF (h : Sr B τ w p n d) (hw : Wat τ w p n q (d.F q) gw A cap) (hq : q < 2 * n) (s : Step (fun r => r = 100 + 2 * q) τ τ w w') (hl : l'.length = (d.F q).length) (hr : RowN τ (100 + 2 * q) w' 211 2 (.slice A (d.F q).length cap) (d.F q).length (watCells l')) :
    Sr B τ w' p n { d with F := fun r => if r = q then l' else d.F r } ∧ Stp τ τ w w' := by
  obtain ⟨pcs, h⟩ := h
  obtain ⟨wb, wvs, a, b, c, e⟩ := h.wat
  have e0 := hw.head
  rw [h.blk.cell, a] at e0
  injection e0 with e0; injection e0 with e0; injection e0 with e0; injection e0 with e0
  subst e0
  refine ⟨⟨pcs, ⟨Nat.le_trans h.base s.kept.size, h.low, h.blk.step s (by omega), h.size, fun j hj => ?_, h.num, ?_, ?_⟩⟩, Stp.of_step s (by omega)⟩
  · obtain ⟨v', a, b⟩ := h.row j hj
    have := flat_le hj
    exact ⟨v', a, b.step s (by omega)⟩
  · obtain ⟨v', cvs, a, b, c, e⟩ := h.cl
    exact ⟨v', cvs, a, b, c.step s (by omega), fun i x hx => by obtain ⟨u, f, g⟩ := e i x hx; exact ⟨u, f, g.step s (by omega)⟩⟩
  · refine ⟨wb, wvs, a, b.step s (by omega), c, fun q' hq' => ?_⟩
    by_cases e1 : q' = q
    · subst e1
      have hv := hw.at_
      rw [b.cell] at hv
      obtain ⟨v0, f0, _⟩ := e q' hq'
      rw [f0.1] at hv
      injection hv with hv
      refine ⟨_, ⟨f0.1.trans (congrArg some hv), fun e => hv.symm.trans (f0.2 e)⟩, ?_⟩
      simp only [if_true]
      rw [hl]; exact hr
    · obtain ⟨v', f, g⟩ := e q' hq'
      refine ⟨v', f, ?_⟩
      simp only [if_neg e1]
      exact g.step s (by omega)
/-- One more watch at the end. -/
theorem Sr.fin_wat (h : Sr B τ w p n d) (hw : Wat τ w p n q (d.F q) gw A cap) (hq : q < 2 * n) (hgq : q ≠ d.gq) (x : Nat × Nat) : ∀ (wp : World) (c g1 : Nat), (w.alloc (.cells #[.int .i32 (x.1 : Int), .int .i32 (x.2 : Int)] 211)).grownBy wp (Value.slice A (d.F q).length cap).ownBlock → wp.ownsRow 0 211 2 (.slice (some ⟨g1, 0, none⟩) ((d.F q).length + 1) c) ((d.F q).length + 1) (watCells (d.F q) ++ [.int .i32 (x.1 : Int), .int .i32 (x.2 : Int)]) → ((Value.slice A (d.F q).length cap).ownBlock = some g1 ∨ g1 = w.heap.size + 1) →
    (wp.cell? ⟨gw, q, none⟩ = some (.slice A (d.F q).length cap) ∧ wp.frozen? ⟨gw, q, none⟩ = false ∧ wp.cell? ⟨p, 1, none⟩ = some (.slice (some ⟨gw, 0, none⟩) (2 * n) (2 * n))) ∧ ∃ τ', Sr B τ' (wp.setCell ⟨gw, q, none⟩ (.slice (some ⟨g1, 0, none⟩) ((d.F q).length + 1) c)) p n { d with F := fun r => if r = q then d.F q ++ [x] else d.F r } ∧ Stp τ τ' w (wp.setCell ⟨gw, q, none⟩ (.slice (some ⟨g1, 0, none⟩) ((d.F q).length + 1) c)) := fun wp c g1 hg hown hat => by
  have b1 : Below w.heap.size w (w.alloc (.cells #[.int .i32 (x.1 : Int), .int .i32 (x.2 : Int)] 211)) := (Below.refl _ _).alloc (Nat.le_refl _) _
  have s1 : Step (fun r => r = 100 + 2 * q) τ τ w (w.alloc (.cells #[.int .i32 (x.1 : Int), .int .i32 (x.2 : Int)] 211)) := Step.of_below _ τ b1
  have s2 : Step (fun r => r = 100 + 2 * q) τ (fun b => if b = g1 then 100 + 2 * q else τ b) (w.alloc (.cells #[.int .i32 (x.1 : Int), .int .i32 (x.2 : Int)] 211)) wp := Step.of_grown hg (fun b hb => hw.role b hb) (hat.imp (fun e => hw.role g1 e) (fun e => by simp; omega)) rfl
  have hr : RowN (fun b => if b = g1 then 100 + 2 * q else τ b) (100 + 2 * q) wp 211 2 (.slice (some ⟨g1, 0, none⟩) ((d.F q).length + 1) c) (d.F q ++ [x]).length (watCells (d.F q ++ [x])) :=
    ⟨by rw [List.length_append]; unfold watCells at hown ⊢; rw [List.flatMap_append]; simpa using hown, fun b hb => by injection hb with hb; subst hb; simp⟩
  obtain ⟨⟨c1, c2, c3⟩, h2, h3⟩ := h.setF hw hq hgq (s1.trans s2) hr
  exact ⟨⟨c1.trans hw.at_, c2, c3.trans hw.head⟩, _, h2, h3⟩
end
end Go.Proofs.YtpmdnbdmocdngaaGreat

namespace Go.Proofs.YtpmdnbdmocdngaaGreat
open Go.ChangeShapes Go.WideShapes Go.ChangeAt Go.RowKit
set_option linter.unusedVariables false
set_option linter.unusedSimpArgs false

/-- What left answers: the first place from lo on whose literal is not gone. -/
def LfPost (w : World) (wo : List Int) (ls : List Nat) (lo hi : Nat) (e : Ending) (w' : World) : Prop :=
  Below w.heap.size w w' ∧ ((e = .returned (.int .i64 (-1)) ∧ ∀ j q, lo ≤ j → j < hi → ls[j]? = some q → ∃ y, wo[q]? = some y ∧ y < 0) ∨ ∃ j q y, e = .returned (.int .i64 (j : Nat)) ∧ lo ≤ j ∧ j < hi ∧ ls[j]? = some q ∧ wo[q]? = some y ∧ 0 ≤ y)
section
variable {B : Nat} {τ : Nat → Nat} {w : World} {p n : Nat} {d : Sd}
set_option maxHeartbeats 1600000 in
theorem left_any (h : Sr B τ w p n d) (L : Len n d) {gl cap lo hi : Nat} {ls : List Nat} (hc : ∀ (i q : Nat), ls[i]? = some q → w.cell? ⟨gl, i, none⟩ = some (.int .i32 (q : Int))) (hgl : gl < w.heap.size) (hle : ls.length ≤ cap) (hmx : cap ≤ 9223372036854775807) (hls : ∀ l ∈ ls, l < 2 * n) (h1 : lo ≤ hi) (h2 : hi ≤ ls.length) (hlb : ls.length ≤ 131072) :
    Calls Tryz.prog 170 #[ptr p, .slice (some ⟨gl, 0, none⟩) ls.length cap, .int .i64 (lo : Int), .int .i64 (hi : Int)] w (LfPost w d.wo ls lo hi) := by
  have hn := L.nb
  have HC := Lib.hid hc
  have HLS := Lib.hid hls
  have HWO := Lib.hid L.wo
  have HA := Lib.hid (show ∀ q, q < 2 * n → ∃ g c y, d.wo[q]? = some y ∧ w.cell? ⟨p, 2, none⟩ = some (.slice (some ⟨g, 0, none⟩) d.wo.length c) ∧ d.wo.length ≤ c ∧ c ≤ 9223372036854775807 ∧ w.cell? ⟨g, q, none⟩ = some (.int .i8 y) ∧ g < w.heap.size from fun q hq => by
    obtain ⟨g, c, a⟩ := h.at_wo (by rw [L.wo]; omega)
    obtain ⟨y, hy⟩ : ∃ y, d.wo[q]? = some y := ⟨_, List.getElem?_eq_getElem (by rw [L.wo]; exact hq)⟩
    exact ⟨g, c, y, hy, a.len_wo.1, a.len_wo.2, a.cap, a.wo hy, a.lt⟩)
  have zp := h.plt
  clear h L hc hls
  go_enter Tryz.func170, Tryz.ntmps170
  go_wp2_with fail
  go_loopw [2] (fun iv wr => ∃ k : Nat, lo ≤ k ∧ k ≤ hi ∧ iv = .int .i64 k ∧ Below w.heap.size w wr ∧ ∀ j q, lo ≤ j → j < k → ls[j]? = some q → ∃ y, d.wo[q]? = some y ∧ y < 0) (fun iv _ => hi - (intOf iv).toNat)
  case atStart => exact ⟨lo, Nat.le_refl _, h1, rfl, Below.refl _ _, fun j q a b => by omega⟩
  case round =>
    obtain ⟨k, hk1, hk2, rfl, hb, hg⟩ := hrel
    have HB := Lib.hid hb
    have HG := Lib.hid hg
    clear hb hg
    by_cases hlt : k < hi
    · obtain ⟨q, hq⟩ : ∃ q, ls[k]? = some q := ⟨_, List.getElem?_eq_getElem (by omega)⟩
      have hq2 := HLS.out q (List.mem_of_getElem? hq)
      obtain ⟨g, c, y, hy, e1, e2, e3, e4, e5⟩ := HA.out q hq2
      have xk : wr.cell? ⟨gl, k, none⟩ = some (.int .i32 (q : Int)) := (HB.out.cell (p := ⟨gl, k, none⟩) hgl).trans (HC.out k q hq)
      have f2 : wr.cell? ⟨p, 2, none⟩ = some (.slice (some ⟨g, 0, none⟩) d.wo.length c) := (HB.out.cell (p := ⟨p, 2, none⟩) zp).trans e1
      have x2 : wr.cell? ⟨g, q, none⟩ = some (.int .i8 y) := (HB.out.cell (p := ⟨g, q, none⟩) e5).trans e4
      have zg : gl < wr.heap.size := Nat.lt_of_lt_of_le hgl HB.out.size
      have zq : g < wr.heap.size := Nat.lt_of_lt_of_le e5 HB.out.size
      have zw : p < wr.heap.size := Nat.lt_of_lt_of_le zp HB.out.size
      have hqw : q < d.wo.length := by rw [HWO.out]; exact hq2
      have b1 : (0 : Int) ≤ (q : Int) := by omega
      have b2 : (q : Int) < (d.wo.length : Int) := by omega
      have HQ := Lib.hid hq
      have HY := Lib.hid hy
      clear hq hy e1 e4
      by_cases hy0 : 0 ≤ y
      · have HE := Lib.hid (show ∀ W : World, Below w.heap.size w W → LfPost w d.wo ls lo hi (.returned (.int .i64 (k : Int))) W from fun W b => ⟨b, .inr ⟨k, q, y, rfl, hk1, hlt, HQ.out, HY.out, hy0⟩⟩)
        go_wp2_with fail
        go_quiet (fail)
        go_wp2_with fail
        go_ret
        exact HE.out _ (Below.draws HB.out _)
      · have hy1 : y < 0 := by omega
        have HG2 := Lib.hid (show ∀ j q, lo ≤ j → j < k + 1 → ls[j]? = some q → ∃ y, d.wo[q]? = some y ∧ y < 0 from fun j q' a b hj => by
          by_cases e : j = k
          · subst e; rw [HQ.out] at hj; injection hj with hj; subst hj; exact ⟨y, HY.out, hy1⟩
          · exact HG.out j q' a (by omega) hj)
        clear hy0
        go_wp2_with fail
        go_quiet (fail)
        go_wp2_with fail
        go_roundw
        case rel => exact ⟨k + 1, by omega, by omega, by go_num, Below.draws HB.out _, HG2.out⟩
        case measure => simp [intOf]; omega
    · obtain rfl : k = hi := by omega
      have HE : Hid (LfPost w d.wo ls lo k (.returned (.int .i64 (-1))) wr) := ⟨HB.out, .inl ⟨rfl, HG.out⟩⟩
      go_wp2_with fail
      go_ret
      exact HE.out
end
end Go.Proofs.YtpmdnbdmocdngaaGreat
