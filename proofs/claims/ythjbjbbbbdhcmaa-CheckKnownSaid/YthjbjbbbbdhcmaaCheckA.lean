/-
  A program that a law lays, instruction by instruction.
-/
import Derived.Test.YthjbjbbbbdhcmaaCheckY
namespace Go.Proofs.Ythjbjbbbbdhcmaa
open Go.ChangeShapes Go.WideShapes Go.ChangeAt Go.RowKit Go.Joins
set_option linter.unusedVariables false

theorem infoInst : (Try.prog.info? 38).map (fun i => (i.zero, i.size, i.bytes)) = some (some (.agg #[.int .i64 0, .int .i64 0]), 2, 16) := by kernel_rfl
theorem info_inst : ∃ i, Try.prog.info? 38 = some i ∧ i.zero = some (.agg #[.int .i64 0, .int .i64 0]) ∧ i.size = 2 ∧ i.bytes = 16 := by
  have h := infoInst
  cases hi : Try.prog.info? 38 with
  | none => rw [hi] at h; simp at h
  | some i =>
    rw [hi] at h
    simp only [Option.map_some, Option.some.injEq, Prod.mk.injEq] at h
    exact ⟨i, rfl, h.1, h.2.1, h.2.2⟩
def iCells (L : List (Int × Int)) : List Value := L.flatMap fun x => [.int .i64 x.1, .int .i64 x.2]
theorem iCells_len (L : List (Int × Int)) : (iCells L).length = L.length * 2 := by
  induction L with
  | nil => rfl
  | cons x L ih => simp only [iCells, List.flatMap_cons, List.length_append, List.length_cons, List.length_nil] at ih ⊢; omega
theorem iCells_at : ∀ {L : List (Int × Int)} {i : Nat} {x : Int × Int}, L[i]? = some x → (iCells L)[i * 2]? = some (.int .i64 x.1) ∧ (iCells L)[i * 2 + 1]? = some (.int .i64 x.2)
  | [], i, x, h => by rw [List.getElem?_nil] at h; cases h
  | y :: L, 0, x, h => by
    simp only [List.getElem?_cons_zero, Option.some.injEq] at h
    subst h
    exact ⟨rfl, rfl⟩
  | y :: L, i + 1, x, h => by
    simp only [List.getElem?_cons_succ] at h
    obtain ⟨h1, h2⟩ := iCells_at h
    have e : ∀ j, (iCells (y :: L))[j + 2]? = (iCells L)[j]? := fun j => rfl
    have e1 : (i + 1) * 2 = i * 2 + 2 := by omega
    rw [e1, e, h1, show i * 2 + 2 + 1 = (i * 2 + 1) + 2 from rfl, e, h2]
    exact ⟨rfl, rfl⟩
theorem row_inst {W : World} {B : Nat} {v : Value} {L : List (Int × Int)} (h : W.ownsRow B 38 2 v L.length (iCells L)) : ∃ A ca, v = .slice A L.length ca ∧ L.length ≤ ca ∧ ca ≤ 9223372036854775807 ∧ InstAt W A L := by
  rcases h.2 with ⟨h0, h1⟩ | ⟨g, cap, cur, h0, h1, h2, h3, h4, _⟩
  · have : L = [] := List.eq_nil_of_length_eq_zero h1
    subst this
    exact ⟨none, 0, h0, Nat.le_refl _, by omega, fun i s hs => by rw [List.getElem?_nil] at hs; cases hs⟩
  · subst h0
    refine ⟨_, cap, rfl, h3, h4, fun i x hx => ⟨g, 0, rfl, lt_of_heap h2, ?_, ?_⟩⟩
    all_goals
      have hi := (List.getElem?_eq_some_iff.1 hx).1
      rw [Nat.zero_add]
      rw [World.ownsRow.cellAt h _ (by omega)]
    · exact (iCells_at hx).1
    · exact (iCells_at hx).2
/-- A variable that holds a program without names, whose instructions lie in a row of the call's own. -/
structure PV (W0 w : World) (pv : Nat) (u : Value) (L : List (Int × Int)) : Prop where
  gw : Gw W0 w
  ge : W0.heap.size ≤ pv
  var : Has w pv 25 #[u, .slice none 0 0]
  row : w.ownsRow (pv + 1) 38 2 u L.length (iCells L)
theorem PV.lt {W0 w : World} {pv : Nat} {u : Value} {L : List (Int × Int)} (h : PV W0 w pv u L) : pv < w.heap.size := h.var.lt
theorem PV.start {W0 w : World} (h : Gw W0 w) : PV W0 (w.alloc (.cells #[.slice none 0 0, .slice none 0 0] 25)) w.heap.size (.slice none 0 0) [] :=
  ⟨h.trans (Gw.alloc _ _), h.size, Has.new _ _ _, ⟨rfl, .inl ⟨rfl, rfl⟩⟩⟩
theorem iCells_app (L M : List (Int × Int)) : iCells (L ++ M) = iCells L ++ iCells M := by simp [iCells]
theorem PV.var_by {W0 w wm wp : World} {pv : Nat} {u : Value} {L : List (Int × Int)} (h : PV W0 w pv u L) (hm : Gw w wm) (hg : wm.grownBy wp u.ownBlock) : Has wp pv 25 #[u, .slice none 0 0] :=
  h.var.same ((hg.block pv (Nat.lt_of_lt_of_le h.lt hm.size) (fun e => by have := (h.row.lt pv e.symm).1; omega)).trans (hm.block pv h.lt))
theorem PV.add_by {W0 w wm wp : World} {pv g c n : Nat} {u : Value} {L M : List (Int × Int)} (h : PV W0 w pv u L) (hm : Gw w wm) (hn : n = L.length + M.length)
    (ho : wp.ownsRow (pv + 1) 38 2 (.slice (some ⟨g, 0, none⟩) n c) n (iCells L ++ iCells M)) (hg : wm.grownBy wp u.ownBlock) :
    PV W0 (wp.setCell ⟨pv, 0, none⟩ (.slice (some ⟨g, 0, none⟩) n c)) pv (.slice (some ⟨g, 0, none⟩) n c) (L ++ M) := by
  have hlt : ∀ k, u.ownBlock = some k → pv + 1 ≤ k := fun k e => (h.row.lt k e).1
  have G1 : Gw W0 wp := (h.gw.trans hm).grown hg fun k e => by have := hlt k e; have := h.ge; omega
  refine ⟨(But.set pv wp 0 _).gw G1 h.ge, h.ge, (h.var_by hm hg).put 0 _, ?_⟩
  rw [List.length_append, iCells_app, ← hn]
  exact own_keep ho fun b hb1 hb2 => set_other (p := ⟨pv, 0, none⟩) (by show b ≠ pv; omega)
theorem PV.var_at {W0 w wp : World} {pv : Nat} {u : Value} {L : List (Int × Int)} {cs : Array Value} (h : PV W0 w pv u L) (hg : (w.alloc (.cells cs 38)).grownBy wp u.ownBlock) : Has wp pv 25 #[u, .slice none 0 0] := h.var_by (Gw.alloc _ _) hg
theorem PV.add {W0 w wp : World} {pv g c n : Nat} {u : Value} {L M : List (Int × Int)} {cs : Array Value} (h : PV W0 w pv u L) (hn : n = L.length + M.length)
    (ho : wp.ownsRow (pv + 1) 38 2 (.slice (some ⟨g, 0, none⟩) n c) n (iCells L ++ iCells M))
    (hg : (w.alloc (.cells cs 38)).grownBy wp u.ownBlock) :
    PV W0 (wp.setCell ⟨pv, 0, none⟩ (.slice (some ⟨g, 0, none⟩) n c)) pv (.slice (some ⟨g, 0, none⟩) n c) (L ++ M) := h.add_by (Gw.alloc _ _) hn ho hg
theorem PV.on {W0 w w' : World} {pv : Nat} {u : Value} {L : List (Int × Int)} (h : PV W0 w pv u L) (g : Gw w w') : PV W0 w' pv u L :=
  ⟨h.gw.trans g, h.ge, h.var.on g, own_keep h.row fun b _ hb => g.block b hb⟩
theorem PV.pok {W0 w : World} {pv : Nat} {u : Value} {L : List (Int × Int)} (h : PV W0 w pv u L) (hw : ∀ x ∈ L, (Lit.int .i64 x.1).wf = true ∧ (Lit.int .i64 x.2).wf = true) :
    ∃ A ca, u = .slice A L.length ca ∧ POk w A L ca none [] 0 := by
  obtain ⟨A, ca, e, h1, h2, h3⟩ := row_inst h.row
  exact ⟨A, ca, e, h1, h2, Nat.le_refl _, by decide, h3, fun i s hs => by simp at hs, fun s hs => (by cases hs), hw⟩
/-- Truths, wherever they lie. -/
def BitsAt (w : World) (A : Option Addr) (l : List Bool) : Prop := ∀ j b, l[j]? = some b → ∃ g off, A = some ⟨g, off, none⟩ ∧ g < w.heap.size ∧ w.cell? ⟨g, off + j, none⟩ = some (.bool b)
theorem BitsAt.gw {w w' : World} {A : Option Addr} {l : List Bool} (h : BitsAt w A l) (g : Gw w w') : BitsAt w' A l := fun j a hj => by
  obtain ⟨b, off, e, hl, hc⟩ := h j a hj
  exact ⟨b, off, e, Nat.lt_of_lt_of_le hl g.size, g.cell hc⟩
end Go.Proofs.Ythjbjbbbbdhcmaa
