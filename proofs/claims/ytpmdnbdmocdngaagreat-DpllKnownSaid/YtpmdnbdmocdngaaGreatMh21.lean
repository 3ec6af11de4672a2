/-
  Parts of the proof, joined: DpllVi.
-/
import Derived.Test.YtpmdnbdmocdngaaGreatMh19
import Derived.Test.YtpmdnbdmocdngaaGreatMh20

namespace Go.Proofs.YtpmdnbdmocdngaaGreat
open Go.ChangeShapes Go.WideShapes Go.ChangeAt Go.RowKit
set_option linter.unusedVariables false
set_option linter.unusedSimpArgs false

def ViPost (B : Nat) (τ : Nat → Nat) (w : World) (p n : Nat) (K0 : Nat → Prop) (Mo : (Nat → Bool) → Prop) (d0 : Sd) (gone : Nat) (e : Ending) (w' : World) : Prop :=
  ∃ τ' d, Sr B τ' w' p n d ∧ Stp τ τ' w w' ∧ Iv n K0 Mo d ∧ Fol d0 d ∧ d.gq = 2 * n ∧ d.nx = d0.nx ∧ ((e = .returned (.int .i32 (-1)) ∧ Pr d (fun _ _ => False)) ∨ ∃ (k : Nat) (c : Cl), e = .returned (.int .i32 (k : Int)) ∧ d.cls[k]? = some c ∧ gone ∈ c.ls ∧ (∀ q ∈ c.ls, wv d.wo q = -1) ∧ Pr d (fun _ x => x = gone))
/-- Round by round. -/
structure ViR (B : Nat) (τ : Nat → Nat) (w : World) (p n : Nat) (K0 : Nat → Prop) (Mo : (Nat → Bool) → Prop) (d0 : Sd) (gone : Nat) (l0 : List (Nat × Nat)) (A : Option Addr) (cap : Nat) (i : Nat) (kept : List (Nat × Nat)) (d : Sd) (τ' : Nat → Nat) (wr : World) : Prop where
  V : Vs n K0 Mo d0 d gone kept (l0.drop i)
  R : Sr B τ' wr p n (d.mem gone (kept ++ l0.drop kept.length))
  T : Stp τ τ' w wr
  kl : kept.length ≤ i
  il : i ≤ l0.length
  gq : d.gq = gone
  gv : d.gv = .slice A l0.length cap
  nx : d.nx = d0.nx
section
variable {B : Nat} {τ τ' : Nat → Nat} {w wr : World} {p n gone i cap : Nat} {d d0 : Sd} {K0 : Nat → Prop} {Mo : (Nat → Bool) → Prop} {l0 kept : List (Nat × Nat)} {A : Option Addr}
theorem ViR.len (h : ViR B τ w p n K0 Mo d0 gone l0 A cap i kept d τ' wr) : (kept ++ l0.drop kept.length).length = l0.length := by
  rw [List.length_append, List.length_drop]; have := h.kl; have := h.il; omega
theorem ViR.wat (h : ViR B τ w p n K0 Mo d0 gone l0 A cap i kept d τ' wr) : ∃ gw, Wat τ' wr p n gone (kept ++ l0.drop kept.length) gw A cap := by
  obtain ⟨gw, A', cap', hw⟩ := h.R.wat h.V.g
  have e := h.R.pinned hw h.V.g h.gq
  have e2 : (d.mem gone (kept ++ l0.drop kept.length)).F gone = kept ++ l0.drop kept.length := if_pos rfl
  have e3 : (d.mem gone (kept ++ l0.drop kept.length)).gv = d.gv := rfl
  rw [e2] at e hw
  rw [e3, h.gv] at e
  injection e with e1 _ e4
  subst e1; subst e4
  exact ⟨gw, hw⟩
theorem ViR.spare {g : Nat} (h : ViR B τ w p n K0 Mo d0 gone l0 (some ⟨g, 0, none⟩) cap i kept d τ' wr) (hi : i < l0.length) : ∀ j, j < 2 → (wr.cell? ⟨g, 0 + kept.length * 2 + j, none⟩).isSome = true ∧ wr.frozen? ⟨g, 0 + kept.length * 2 + j, none⟩ = false := fun j hj => by
  obtain ⟨gw, hw⟩ := h.wat
  have e2 : (d.mem gone (kept ++ l0.drop kept.length)).F gone = kept ++ l0.drop kept.length := if_pos rfl
  rw [← e2] at hw
  have := h.kl
  exact hw.there (by rw [e2, h.len]; omega)
theorem ViR.alike {W : World} (h : ViR B τ w p n K0 Mo d0 gone l0 A cap i kept d τ' wr) (b : Below wr.heap.size wr W) : ViR B τ w p n K0 Mo d0 gone l0 A cap i kept d τ' W :=
  ⟨h.V, h.R.below b, h.T.trans (Stp.of_below _ b), h.kl, h.il, h.gq, h.gv, h.nx⟩
/-- The watch at hand is written behind those that stay. -/
theorem ViR.put (h : ViR B τ w p n K0 Mo d0 gone l0 A cap i kept d τ' wr) {d' : Sd} {g : Nat} (hA : A = some ⟨g, 0, none⟩) (hi : i < l0.length) (x : Nat × Nat) (hd : d' = d.mem gone (kept ++ x :: l0.drop (i + 1)) ∨ d' = d) :
    Sr B τ' (wr.setCells g (kept.length * 2) (watCells [x])) p n (d'.mem gone ((kept ++ [x]) ++ l0.drop (kept ++ [x]).length)) ∧ Stp τ' τ' wr (wr.setCells g (kept.length * 2) (watCells [x])) := by
  obtain ⟨gw, hw⟩ := h.wat
  subst hA
  have hkl := h.kl
  have e2 : (d.mem gone (kept ++ l0.drop kept.length)).F gone = kept ++ l0.drop kept.length := if_pos rfl
  rw [← e2] at hw
  obtain ⟨rr, tt⟩ := h.R.room hw h.V.g (k := kept.length) (l := [x]) (by rw [e2, h.len]; simp; omega)
  have e3 : ((d.mem gone (kept ++ l0.drop kept.length)).F gone).take kept.length ++ [x] ++ ((d.mem gone (kept ++ l0.drop kept.length)).F gone).drop (kept.length + [x].length) = (kept ++ [x]) ++ l0.drop (kept ++ [x]).length := by
    rw [e2, List.take_left, List.drop_append, List.drop_eq_nil_of_le (by simp), List.nil_append, List.drop_drop, List.length_append]
    congr 2
    simp
  have e4 : d'.mem gone ((kept ++ [x]) ++ l0.drop (kept ++ [x]).length) = { (d.mem gone (kept ++ l0.drop kept.length)) with F := fun r => if r = gone then ((d.mem gone (kept ++ l0.drop kept.length)).F gone).take kept.length ++ [x] ++ ((d.mem gone (kept ++ l0.drop kept.length)).F gone).drop (kept.length + [x].length) else (d.mem gone (kept ++ l0.drop kept.length)).F r } := by
    rw [e3]
    have key : ∀ r, (if r = gone then (kept ++ [x]) ++ l0.drop (kept ++ [x]).length else d'.F r) = (if r = gone then (kept ++ [x]) ++ l0.drop (kept ++ [x]).length else (d.mem gone (kept ++ l0.drop kept.length)).F r) := fun r => by
      by_cases e : r = gone
      · rw [if_pos e, if_pos e]
      · rw [if_neg e, if_neg e]
        rcases hd with rfl | rfl
        · show (if r = gone then _ else _) = (if r = gone then _ else _)
          rw [if_neg e, if_neg e]
        · show _ = (if r = gone then _ else _)
          rw [if_neg e]
    have key2 := funext key
    rcases hd with rfl | rfl
    · unfold Sd.mem Fs at key2 ⊢
      simp only at key2 ⊢
      rw [key2]
    · unfold Sd.mem Fs at key2 ⊢
      simp only at key2 ⊢
      rw [key2]
  exact ⟨by rw [e4]; exact rr, tt⟩
theorem Stp.cellz {b j : Nat} {u : Value} (k : Stp τ τ' w wr) (h0 : τ b = 0) (hc : w.cell? ⟨b, j, none⟩ = some u) : wr.cell? ⟨b, j, none⟩ = some u :=
  (World.cell?_of_block (a := ⟨b, j, none⟩) (k.kept.block b (lt_of_cell hc) (fun h => h h0))).trans hc
theorem moved_mem {dd : Sd} {k j q g : Nat} {c : Cl} {x : Nat × Nat} {M l' : List (Nat × Nat)} (hq : q ≠ g) : ({ Sd.moved (dd.mem g M) k c j q g with F := fun r => if r = q then (dd.mem g M).F q ++ [x] else (dd.mem g M).F r } : Sd) = ({ Sd.moved dd k c j q g with F := fun r => if r = q then dd.F q ++ [x] else if r = g then l' else dd.F r } : Sd).mem g M := by
  have e : (fun r => if r = q then (dd.mem g M).F q ++ [x] else (dd.mem g M).F r) = Fs (fun r => if r = q then dd.F q ++ [x] else if r = g then l' else dd.F r) g M := funext fun r => by
    show (if r = q then (if q = g then M else dd.F q) ++ [x] else (if r = g then M else dd.F r)) = if r = g then M else (if r = q then dd.F q ++ [x] else if r = g then l' else dd.F r)
    by_cases e1 : r = q
    · rw [if_pos e1, if_neg hq, if_neg (by omega), if_pos e1]
    · rw [if_neg e1]
      by_cases e2 : r = g
      · rw [if_pos e2, if_pos e2]
      · rw [if_neg e2, if_neg e2, if_neg e1, if_neg e2]
  unfold Sd.mem
  rw [← e]
  rfl
/-- Blocks that are made now are nobody's. -/
theorem ViR.fresh {W : World} (h : ViR B τ w p n K0 Mo d0 gone l0 A cap i kept d τ' wr) (b : Below wr.heap.size wr W) : ∃ τ1, ViR B τ w p n K0 Mo d0 gone l0 A cap i kept d τ1 W ∧ ∀ k, wr.heap.size ≤ k → τ1 k = 0 := by
  have k1 : Step (fun _ => False) τ' (fun b => if wr.heap.size ≤ b then 0 else τ' b) wr W := ⟨(Step.of_below (fun _ => False) τ' b).kept, fun b hb => if_neg (by omega)⟩
  refine ⟨_, ⟨h.V, ?_, h.T.trans (Stp.of_step k1 id), h.kl, h.il, h.gq, h.gv, h.nx⟩, fun k hk => if_pos hk⟩
  obtain ⟨pcs, s⟩ := h.R
  exact ⟨pcs, s.step k1 (fun _ _ h => h)⟩
theorem wat_pin {M : List (Nat × Nat)} {m : Nat} (S : Sr B τ w p n (d.mem gone M)) (hg : gone < 2 * n) (hq : d.gq = gone) (hv : d.gv = .slice A m cap) : ∃ gw, Wat τ w p n gone M gw A cap := by
  obtain ⟨gw, A', cap', hw⟩ := S.wat hg
  have e := S.pinned hw hg hq
  have e2 : (d.mem gone M).F gone = M := if_pos rfl
  have e3 : (d.mem gone M).gv = d.gv := rfl
  rw [e2] at e hw
  rw [e3, hv] at e
  injection e with e1 _ e4
  subst e1; subst e4
  exact ⟨gw, hw⟩
/-- The row of watches gets the head that it has in the end. -/
theorem Sr.finF {M : List (Nat × Nat)} {gw m : Nat} (S : Sr B τ w p n (d.mem gone M)) (hg : gone < 2 * n) (hw : Wat τ w p n gone M gw A cap) (hm : m ≤ M.length) :
    Sr B τ (w.setCell ⟨gw, gone, none⟩ (.slice A m cap)) p n { d.mem gone (M.take m) with gq := 2 * n, gv := .bool false } ∧ Stp τ τ w (w.setCell ⟨gw, gone, none⟩ (.slice A m cap)) := by
  have e2 : (d.mem gone M).F gone = M := if_pos rfl
  have U := S.unpin (.bool false) (g' := 2 * n) (Nat.le_refl _)
  have e3 : ({ d.mem gone M with gq := 2 * n, gv := .bool false } : Sd).F gone = M := e2
  rw [← e3] at hw
  obtain ⟨r1, r2⟩ := U.cutF hw hg (by show gone ≠ 2 * n; omega) (m := m) (by rw [e3]; exact hm)
  refine ⟨?_, r2⟩
  have e4 : (fun r => if r = gone then (({ d.mem gone M with gq := 2 * n, gv := .bool false } : Sd).F gone).take m else ({ d.mem gone M with gq := 2 * n, gv := .bool false } : Sd).F r) = Fs d.F gone (M.take m) := funext fun r => by
    rw [e3]
    show (if r = gone then M.take m else if r = gone then M else d.F r) = if r = gone then M.take m else d.F r
    by_cases e : r = gone
    · rw [if_pos e, if_pos e]
    · rw [if_neg e, if_neg e, if_neg e]
  rw [e4] at r1
  exact r1
theorem wat_at {M : List (Nat × Nat)} {gw g : Nat} (hw : Wat τ w p n gone M gw (some ⟨g, 0, none⟩) cap) {j : Nat} {u : Value} (hu : (watCells M)[j]? = some u) : w.cell? ⟨g, j, none⟩ = some u :=
  RowN.cell (τ := τ) (r := 100 + 2 * gone) ⟨hw.own, fun b hb => hw.role b hb⟩ hu
theorem conf_fin {g : Nat} (S : Sr B τ w p n (d.mem gone (kept ++ l0.drop kept.length))) (hg : gone < 2 * n) (hq : d.gq = gone) (hv : d.gv = .slice (some ⟨g, 0, none⟩) l0.length cap) (hk : kept.length ≤ i + 1) (hi : i < l0.length) :
    ∃ gw, w.cell? ⟨p, 1, none⟩ = some (.slice (some ⟨gw, 0, none⟩) (2 * n) (2 * n)) ∧ gw < w.heap.size ∧ (∀ j, j < (watCells (l0.drop (i + 1))).length → (w.cell? ⟨g, 0 + kept.length * 2 + j, none⟩).isSome = true ∧ w.frozen? ⟨g, 0 + kept.length * 2 + j, none⟩ = false) ∧ (∀ (j : Nat) (u : Value), (watCells (l0.drop (i + 1)))[j]? = some u → w.cell? ⟨g, (i + 1) * 2 + j, none⟩ = some u) ∧
      (w.setCells g (kept.length * 2) (watCells (l0.drop (i + 1)))).cell? ⟨gw, gone, none⟩ = some (.slice (some ⟨g, 0, none⟩) l0.length cap) ∧ (w.setCells g (kept.length * 2) (watCells (l0.drop (i + 1)))).frozen? ⟨gw, gone, none⟩ = false ∧ (w.setCells g (kept.length * 2) (watCells (l0.drop (i + 1)))).cell? ⟨p, 1, none⟩ = some (.slice (some ⟨gw, 0, none⟩) (2 * n) (2 * n)) ∧
      Sr B τ ((w.setCells g (kept.length * 2) (watCells (l0.drop (i + 1)))).setCell ⟨gw, gone, none⟩ (.slice (some ⟨g, 0, none⟩) (kept.length + (l0.length - (i + 1))) cap)) p n { d.mem gone (kept ++ l0.drop (i + 1)) with gq := 2 * n, gv := .bool false } ∧ Stp τ τ w ((w.setCells g (kept.length * 2) (watCells (l0.drop (i + 1)))).setCell ⟨gw, gone, none⟩ (.slice (some ⟨g, 0, none⟩) (kept.length + (l0.length - (i + 1))) cap)) := by
  obtain ⟨gw, hw⟩ := wat_pin S hg hq hv
  have hml : (kept ++ l0.drop kept.length).length = l0.length := by rw [List.length_append, List.length_drop]; omega
  have e2 : (d.mem gone (kept ++ l0.drop kept.length)).F gone = kept ++ l0.drop kept.length := if_pos rfl
  have hwl : (watCells (l0.drop (i + 1))).length = (l0.length - (i + 1)) * 2 := by rw [show (watCells (l0.drop (i + 1))).length = (l0.drop (i + 1)).length * 2 from flat_len wat_len _, List.length_drop]
  have hw2 := hw
  rw [← e2] at hw2
  obtain ⟨r1, t1⟩ := S.room hw2 hg (k := kept.length) (l := l0.drop (i + 1)) (by rw [e2, hml, List.length_drop]; omega)
  have e3 : (fun r => if r = gone then ((d.mem gone (kept ++ l0.drop kept.length)).F gone).take kept.length ++ l0.drop (i + 1) ++ ((d.mem gone (kept ++ l0.drop kept.length)).F gone).drop (kept.length + (l0.drop (i + 1)).length) else (d.mem gone (kept ++ l0.drop kept.length)).F r) = Fs d.F gone (kept ++ l0.drop (i + 1) ++ (kept ++ l0.drop kept.length).drop (kept.length + (l0.drop (i + 1)).length)) := funext fun r => by
    rw [e2, List.take_left]
    show (if r = gone then _ else if r = gone then _ else d.F r) = if r = gone then _ else d.F r
    by_cases e : r = gone
    · rw [if_pos e, if_pos e]
    · rw [if_neg e, if_neg e, if_neg e]
  rw [e3] at r1
  have r1 : Sr B τ (w.setCells g (kept.length * 2) (watCells (l0.drop (i + 1)))) p n (d.mem gone (kept ++ l0.drop (i + 1) ++ (kept ++ l0.drop kept.length).drop (kept.length + (l0.drop (i + 1)).length))) := r1
  have hml2 : (kept ++ l0.drop (i + 1) ++ (kept ++ l0.drop kept.length).drop (kept.length + (l0.drop (i + 1)).length)).length = l0.length := by
    rw [List.length_append, List.length_append, List.length_drop, List.length_drop, hml]; omega
  obtain ⟨gw2, hw3⟩ := wat_pin r1 hg hq hv
  have hgr : τ g = 100 + 2 * gone := hw.role g rfl
  have st := step_cells (w := w) hgr (watCells (l0.drop (i + 1))) (kept.length * 2)
  have hp1 : (w.setCells g (kept.length * 2) (watCells (l0.drop (i + 1)))).cell? ⟨p, 1, none⟩ = some (.slice (some ⟨gw, 0, none⟩) (2 * n) (2 * n)) := by
    obtain ⟨pcs, s⟩ := S
    exact (World.cell?_of_block (a := ⟨p, 1, none⟩) (st.kept.block p s.blk.lt (by rw [s.blk.2]; omega))).trans hw.head
  have eg : gw2 = gw := by
    have e := hw3.head
    rw [hp1] at e
    injection e with e; injection e with e; injection e with e; injection e with e
    exact e.symm
  subst eg
  obtain ⟨r2, t2⟩ := r1.finF hg hw3 (m := kept.length + (l0.length - (i + 1))) (by rw [hml2]; omega)
  have e4 : (kept ++ l0.drop (i + 1) ++ (kept ++ l0.drop kept.length).drop (kept.length + (l0.drop (i + 1)).length)).take (kept.length + (l0.length - (i + 1))) = kept ++ l0.drop (i + 1) := by
    have : kept.length + (l0.length - (i + 1)) = (kept ++ l0.drop (i + 1)).length := by rw [List.length_append, List.length_drop]
    rw [this, List.take_left]
  rw [e4] at r2
  have hat := hw3.at_
  rw [hml2] at hat
  refine ⟨gw2, hw.head, hw.wlt, fun j hj => ?_, fun j u hu => ?_, hat, hw3.wfree _, hp1, r2, t1.trans t2⟩
  · rw [← e2] at hw
    exact hw.there (by rw [e2, hml]; rw [hwl] at hj; omega)
  · refine wat_at hw ?_
    have e5 : kept ++ l0.drop kept.length = (kept ++ (l0.drop kept.length).take (i + 1 - kept.length)) ++ l0.drop (i + 1) := by
      rw [List.append_assoc]
      congr 1
      conv => lhs; rw [← List.take_append_drop (i + 1 - kept.length) (l0.drop kept.length)]
      rw [List.drop_drop, show kept.length + (i + 1 - kept.length) = i + 1 by omega]
    rw [e5]
    unfold watCells at hu ⊢
    rw [List.flatMap_append, List.getElem?_append_right, flat_len wat_len]
    · rw [List.length_append, List.length_take, List.length_drop, show (i + 1) * 2 + j - (kept.length + min (i + 1 - kept.length) (l0.length - kept.length)) * 2 = j by omega]
      exact hu
    · rw [flat_len wat_len, List.length_append, List.length_take, List.length_drop]; omega
theorem mem_self (d : Sd) (g : Nat) : d.mem g (d.F g) = d := by
  have : (fun r => if r = g then d.F g else d.F r) = d.F := funext fun r => by
    by_cases e : r = g
    · rw [if_pos e, e]
    · rw [if_neg e]
  unfold Sd.mem Fs
  rw [this]
theorem Iv.re (h : Iv n K0 Mo d) (q : Nat) (v : Value) : Iv n K0 Mo { d with gq := q, gv := v } := by
  have L := h.L
  exact ⟨⟨L.nb, L.wo, L.dp, L.wy, L.lk, L.sc, L.se, L.co, L.tr, L.ma, L.nu⟩, ⟨h.T.w, h.T.tl, h.T.nd, h.T.one, h.T.k0, h.T.ma, h.T.mb, h.T.dp, h.T.nx, h.T.mx⟩, h.C, h.W, h.Y, h.S, h.hb⟩
theorem Vs.re (h : Vs n K0 Mo d0 d gone kept l0) (q : Nat) (v : Value) : Vs n K0 Mo d0 { d with gq := q, gv := v } gone kept l0 :=
  ⟨h.I.re q v, h.P, h.F, h.V.trans ⟨CP.refl _, ⟨[], by simp⟩, fun _ h _ => h, _, _, _, _, _, _, _, _, _, rfl⟩, h.g, h.gw, h.gd⟩
end
end Go.Proofs.YtpmdnbdmocdngaaGreat
