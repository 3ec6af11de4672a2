/-
  Parts of the proof, joined: DpllAp, DpllVm, DpllLk.
-/
import Derived.Test.YtpmdnbdmocdngaaGreatMh12
import Derived.ArgAppend
import Derived.Laws.IdiomCopy
import Derived.Test.YtpmdnbdmocdngaaGreatMh16
import Derived.Test.YtpmdnbdmocdngaaGreatMh18
import Derived.Test.YtpmdnbdmocdngaaGreatMh15
import Derived.Test.YtpmdnbdmocdngaaGreatMh14

namespace Go.Proofs.YtpmdnbdmocdngaaGreat
open Go.ChangeShapes Go.WideShapes Go.ChangeAt Go.RowKit
set_option linter.unusedVariables false
set_option linter.unusedSimpArgs false

/-- append where there is room, for the walk outside of a drawn region. -/
theorem wpList_append_in {P : Program} (w : World) {ops : Array Oper} {rest : List Oper} {o : Oper} {a : Act} {Q : Exit → Act → World → Prop}
    (hg : o.guard = none) (s x : Operand) (t : TypeId) (hop : o.op = Op.call { callee := Callee.builtin Builtin.append, args := #[s, x], argTypes := #[t, t] })
    (e : TypeId) (i : TypeInfo) (size : Nat) (h1 : P.underlying t = some (.slice e)) (h2 : P.info? e = some i) (h4 : i.size = size)
    (b off n cap : Nat) (hs : a.eval s = .slice (some ⟨b, off, none⟩) n cap)
    (ad : Addr) (m c : Nat) (news : List Value) (hx : a.eval x = .slice (some ad) m c) (hn : news.length = m * size) (hc : ∀ j u, news[j]? = some u → w.cell? (ad.add j) = some u) (h1c : ∀ u ∈ news, u.oneCell' = true)
    (hroom : n + m ≤ cap) (hspare : ∀ j, j < news.length → (w.cell? ⟨b, off + n * size + j, none⟩).isSome = true ∧ w.frozen? ⟨b, off + n * size + j, none⟩ = false)
    (hK : wpList P ops Q rest (a.put o.dst (.slice (some ⟨b, off, none⟩) (n + m) cap)) (w.setCells b (off + n * size) news)) :
    wpList P ops Q (o :: rest) a w := by
  refine wpList_plain hg fun K hK' => ?_
  subst h4
  have hrun := run_append_room_cells (P := P) w t o.type e i h1 h2 b off n cap ad m c news hn hc h1c hroom (fun j hj => (hspare j hj).1) (fun j hj => (hspare j hj).2)
  unfold Oper.wp
  simp [execOp, hop, resolve, invoke, builtin, hs, hx, hrun, Result.andThen]
  exact hK' _ _ hK
def sets {α : Type} (xs : List α) (o : Nat) : List α → List α
  | [] => xs
  | v :: vs => sets (xs.set o v) (o + 1) vs
section
variable {τ : Nat → Nat} {r s n : Nat} {e : TypeId} {g cap : Nat}
theorem RowN.stores : ∀ (vs : List Value) (o : Nat) (w : World) (xs : List Value), RowN τ r w e s (.slice (some ⟨g, 0, none⟩) n cap) n xs → o + vs.length ≤ n * s → RowN τ r (w.setCells g o vs) e s (.slice (some ⟨g, 0, none⟩) n cap) n (sets xs o vs)
  | [], o, w, xs, h, _ => h
  | v :: vs, o, w, xs, h, hl => by
    rw [List.length_cons] at hl
    exact RowN.stores vs (o + 1) _ _ (h.store (by omega) v) (by omega)
theorem step_cells (hg : τ g = r) : ∀ (vs : List Value) (o : Nat) (w : World), Step (fun k => k = r) τ τ w (w.setCells g o vs)
  | [], o, w => Step.refl _ _ _
  | v :: vs, o, w => (Step.set ⟨g, o, none⟩ v hg).trans (step_cells hg vs (o + 1) _)
end
theorem sets_wat : ∀ (l M : List (Nat × Nat)) (k : Nat), k + l.length ≤ M.length → sets (watCells M) (k * 2) (watCells l) = watCells (M.take k ++ l ++ M.drop (k + l.length))
  | [], M, k, h => by simp [watCells, sets]
  | a :: l, M, k, h => by
    rw [List.length_cons] at h
    obtain ⟨b, hb⟩ : ∃ b, M[k]? = some b := ⟨_, List.getElem?_eq_getElem (by omega)⟩
    have e1 : sets (watCells M) (k * 2) (watCells (a :: l)) = sets (((watCells M).set (k * 2 + 0) (.int .i32 (a.1 : Int))).set (k * 2 + 1) (.int .i32 (a.2 : Int))) ((k + 1) * 2) (watCells l) := by
      show sets _ (k * 2 + 1 + 1) _ = _
      rw [show (k + 1) * 2 = k * 2 + 1 + 1 by omega]
      rfl
    have e2 : (watCells M).set (k * 2 + 0) (.int .i32 (a.1 : Int)) = watCells (M.set k (a.1, b.2)) := flat_set wat_len M k 0 b (a.1, b.2) hb (by decide) rfl
    have e3 : (watCells (M.set k (a.1, b.2))).set (k * 2 + 1) (.int .i32 (a.2 : Int)) = watCells ((M.set k (a.1, b.2)).set k a) := flat_set wat_len _ k 1 (a.1, b.2) a (List.getElem?_set_self (by omega)) (by decide) rfl
    rw [e1, e2, e3, List.set_set, sets_wat l (M.set k a) (k + 1) (by rw [List.length_set]; omega)]
    congr 1
    rw [List.length_cons]
    refine List.ext_getElem? fun i => ?_
    rw [List.drop_set, if_pos (by omega), List.take_set]
    have e4 : (M.take (k + 1)).set k a = M.take k ++ [a] := by
      have hk : k < M.length := by omega
      rw [List.take_succ_eq_append_getElem hk, List.set_append_right _ _ (by rw [List.length_take]; omega), List.length_take, Nat.min_eq_left (by omega), Nat.sub_self]
      rfl
    rw [e4, show k + 1 + l.length = k + (l.length + 1) by omega]
    simp
section
variable {B : Nat} {τ : Nat → Nat} {w : World} {p n q : Nat} {d : Sd} {gw cap g : Nat}
/-- Watches written over others, in place. -/
theorem Sr.room (h : Sr B τ w p n d) (hw : Wat τ w p n q (d.F q) gw (some ⟨g, 0, none⟩) cap) (hq : q < 2 * n) {k : Nat} {l : List (Nat × Nat)} (hk : k + l.length ≤ (d.F q).length) :
    Sr B τ (w.setCells g (k * 2) (watCells l)) p n { d with F := fun r => if r = q then (d.F q).take k ++ l ++ (d.F q).drop (k + l.length) else d.F r } ∧ Stp τ τ w (w.setCells g (k * 2) (watCells l)) := by
  have hg : τ g = 100 + 2 * q := hw.role g rfl
  have hll : (watCells l).length = l.length * 2 := flat_len wat_len l
  refine h.putF hw hq (step_cells hg _ _ _) (by rw [List.length_append, List.length_append, List.length_take, List.length_drop]; omega) ?_
  rw [← sets_wat l _ k hk]
  exact RowN.stores _ _ _ _ ⟨hw.own, fun b hb => hw.role b hb⟩ (by rw [hll]; omega)
theorem Wat.there (hw : Wat τ w p n q (d.F q) gw (some ⟨g, 0, none⟩) cap) {j : Nat} (hj : j < (d.F q).length * 2) : (w.cell? ⟨g, j, none⟩).isSome = true ∧ w.frozen? ⟨g, j, none⟩ = false := by
  obtain ⟨a, ha⟩ : ∃ a, (d.F q)[j / 2]? = some a := ⟨_, List.getElem?_eq_getElem (by omega)⟩
  obtain ⟨g', e, _, h1, h2, _, _, _, h3⟩ := hw.cell _ _ ha
  injection e with e; injection e with e
  subst e
  refine ⟨?_, h3 _⟩
  by_cases h : j % 2 = 0
  · rw [show j = j / 2 * 2 by omega, h1]; rfl
  · rw [show j = j / 2 * 2 + 1 by omega, h2]; rfl
/-- The head of a row that is gone through stays where it was. -/
theorem Sr.pinned (h : Sr B τ w p n d) {A : Option Addr} (hw : Wat τ w p n q (d.F q) gw A cap) (hq : q < 2 * n) (hgq : d.gq = q) : d.gv = .slice A (d.F q).length cap := by
  obtain ⟨pcs, h⟩ := h
  obtain ⟨wb, wvs, a, b, c, e⟩ := h.wat
  have e0 := hw.head
  rw [h.blk.cell, a] at e0
  injection e0 with e0; injection e0 with e0; injection e0 with e0; injection e0 with e0
  subst e0
  obtain ⟨v, ⟨f, f2⟩, _⟩ := e q hq
  have hv := hw.at_
  rw [b.cell, f] at hv
  injection hv with hv
  rw [← hv]; exact (f2 hgq.symm).symm
theorem Sr.pin (h : Sr B τ w p n d) {A : Option Addr} (hw : Wat τ w p n q (d.F q) gw A cap) (hq : q < 2 * n) : Sr B τ w p n { d with gq := q, gv := .slice A (d.F q).length cap } := by
  obtain ⟨pcs, h⟩ := h
  obtain ⟨wb, wvs, a, b, c, e⟩ := h.wat
  have e0 := hw.head
  rw [h.blk.cell, a] at e0
  injection e0 with e0; injection e0 with e0; injection e0 with e0; injection e0 with e0
  subst e0
  refine ⟨pcs, h.base, h.low, h.blk, h.size, fun k hk => ?_, fun k hk => ?_, h.cl, wb, wvs, a, b, c, fun q' hq' => ?_⟩
  · have := h.row k hk
    rcases flat_cases hk with rfl | rfl | rfl | rfl | rfl | rfl | rfl | rfl | rfl | rfl | rfl | rfl <;> exact this
  · have := h.num k hk
    rcases isnum_cases hk with rfl | rfl | rfl | rfl | rfl | rfl | rfl | rfl <;> exact this
  · obtain ⟨v, ⟨f, _⟩, r⟩ := e q' hq'
    refine ⟨v, ⟨f, fun e1 => ?_⟩, r⟩
    have e1 : q' = q := e1
    subst e1
    have hv := hw.at_
    rw [b.cell, f] at hv
    injection hv
theorem Sr.unpin (h : Sr B τ w p n d) (v : Value) {g' : Nat} (hg : 2 * n ≤ g') : Sr B τ w p n { d with gq := g', gv := v } := by
  obtain ⟨pcs, h⟩ := h
  obtain ⟨wb, wvs, a, b, c, e⟩ := h.wat
  refine ⟨pcs, h.base, h.low, h.blk, h.size, fun k hk => ?_, fun k hk => ?_, h.cl, wb, wvs, a, b, c, fun q' hq' => ?_⟩
  · have := h.row k hk
    rcases flat_cases hk with rfl | rfl | rfl | rfl | rfl | rfl | rfl | rfl | rfl | rfl | rfl | rfl <;> exact this
  · have := h.num k hk
    rcases isnum_cases hk with rfl | rfl | rfl | rfl | rfl | rfl | rfl | rfl <;> exact this
  · obtain ⟨v, ⟨f, _⟩, r⟩ := e q' hq'
    exact ⟨v, ⟨f, fun e1 => by have e1 : q' = g' := e1; omega⟩, r⟩
theorem wat_take (M : List (Nat × Nat)) {m : Nat} (hm : m ≤ M.length) : (watCells M).take (m * 2) = watCells (M.take m) := by
  have e : watCells M = watCells (M.take m) ++ watCells (M.drop m) := by
    unfold watCells; rw [← List.flatMap_append, List.take_append_drop]
  have hl : (watCells (M.take m)).length = m * 2 := by
    have := flat_len wat_len (M.take m)
    rw [List.length_take, Nat.min_eq_left hm] at this; exact this
  rw [e, ← hl, List.take_left]
/-- A row of watches is cut: less of it counts. -/
theorem Sr.cutF (h : Sr B τ w p n d) {A : Option Addr} (hw : Wat τ w p n q (d.F q) gw A cap) (hq : q < 2 * n) (hgq : q ≠ d.gq) {m : Nat} (hm : m ≤ (d.F q).length) :
    Sr B τ (w.setCell ⟨gw, q, none⟩ (.slice A m cap)) p n { d with F := fun r => if r = q then (d.F q).take m else d.F r } ∧ Stp τ τ w (w.setCell ⟨gw, q, none⟩ (.slice A m cap)) := by
  have hl : ((d.F q).take m).length = m := by rw [List.length_take]; omega
  have := (h.setF (v := .slice A m cap) (l' := (d.F q).take m) hw hq hgq (Step.refl _ _ _) ?_).2
  · exact this
  · rw [hl]
    refine ⟨⟨by rw [← wat_take _ hm, List.length_take, show (watCells (d.F q)).length = (d.F q).length * 2 from flat_len wat_len _]; omega, ?_⟩, fun g hg => hw.role g (by
      cases A with
      | none => simp [Value.ownBlock] at hg
      | some a => simpa [Value.ownBlock] using hg)⟩
    rcases hw.own.2 with ⟨h0, h1⟩ | ⟨g, cap', cur, h0, hb, hg, h1, h2, h3, h4⟩
    · injection h0 with a b c
      refine .inl ⟨?_, by omega⟩
      rw [a, c, show m = 0 by omega]
    · injection h0 with a b c
      subst c
      refine .inr ⟨g, cap, cur, by rw [a], hb, hg, by omega, h2, h3, ?_⟩
      rw [← wat_take _ hm, ← h4, List.take_take, Nat.min_eq_left (by omega)]
end
end Go.Proofs.YtpmdnbdmocdngaaGreat

namespace Go.Proofs.YtpmdnbdmocdngaaGreat
open Go.ChangeShapes Go.WideShapes Go.ChangeAt Go.RowKit
set_option linter.unusedVariables false
set_option linter.unusedSimpArgs false

section
variable {B : Nat} {τ : Nat → Nat} {w : World} {p n k gone y : Nat} {d d0 : Sd} {K0 : Nat → Prop} {Mo : (Nat → Bool) → Prop} {kept rest M : List (Nat × Nat)}
theorem Len.mem (L : Len n d) (g : Nat) (l : List (Nat × Nat)) : Len n (d.mem g l) := ⟨L.nb, L.wo, L.dp, L.wy, L.lk, L.sc, L.se, L.co, L.tr, L.ma, L.nu⟩
theorem move_any (v : Vs n K0 Mo d0 d gone kept ((k, y) :: rest)) (R : Sr B τ w p n (d.mem gone M)) (hM : M.length ≤ 4294967296) (hgq : d.gq = gone) :
    ∃ dd c1 first, Vs n K0 Mo d0 dd gone kept ((k, y) :: rest) ∧ dd.cls[k]? = some c1 ∧ c1.ls[0]? = some first ∧ c1.ls[1]? = some gone ∧ dd.gq = d.gq ∧ dd.gv = d.gv ∧ dd.nx = d.nx ∧ Calls Tryz.prog 127 #[ptr p, .int .i32 (k : Int), .int .i32 (gone : Int)] w (MvPost B τ w p n (dd.mem gone M) k c1 gone first) := by
  obtain ⟨c, hc, hw, hy, hyg⟩ := v.entry
  have hlen := v.I.C.len k c hc
  have hcg := v.I.cgood hc
  have hnd := v.I.C.nd k c hc
  obtain ⟨fr, hfr, hf1, hf2⟩ := v.I.C.fr k c hc
  have hkl := (List.getElem?_eq_some_iff.1 hc).1
  have hb := v.I.hb
  have hFb : ∀ q, ((d.mem gone M).F q).length ≤ 4294967296 := fun q => by
    show (if q = gone then M else d.F q).length ≤ _
    split
    · exact hM
    · have := v.I.W.all q; omega
  by_cases h1 : c.ls[1]? = some gone
  · obtain ⟨first, h0⟩ : ∃ first, c.ls[0]? = some first := ⟨_, List.getElem?_eq_getElem (by omega)⟩
    exact ⟨d, c, first, v, hc, h0, h1, rfl, rfl, rfl, move_two R (v.I.L.mem _ _) hc (by omega) hcg.2.2 hcg.2.1 hfr hf1 hf2 h0 h1 (v.ne hc (by decide) h0 h1) hFb (fun q _ _ h => by rw [show (d.mem gone M).gq = d.gq from rfl, hgq]; exact h) hnd⟩
  · have h0 : c.ls[0]? = some gone := hw.resolve_right h1
    obtain ⟨first, h1⟩ : ∃ first, c.ls[1]? = some first := ⟨_, List.getElem?_eq_getElem (by omega)⟩
    have hne := v.ne hc (by decide) h1 h0
    refine ⟨_, { c with ls := (c.ls.set 0 first).set 1 gone }, first, v.swap hc h0 h1, List.getElem?_set_self hkl, ?_, List.getElem?_set_self (by rw [List.length_set]; omega), rfl, rfl, rfl, move_one (d0 := d.mem gone M) (c0 := c) R (v.I.L.mem _ _) hc (by omega) hcg.2.2 hcg.2.1 hfr hf1 hf2 h0 h1 hne hFb (fun q _ _ h => by rw [show (d.mem gone M).gq = d.gq from rfl, hgq]; exact h) hnd rfl rfl⟩
    show ((c.ls.set 0 first).set 1 gone)[0]? = _
    rw [List.getElem?_set_ne (by decide)]
    exact List.getElem?_set_self (by omega)
end
end Go.Proofs.YtpmdnbdmocdngaaGreat

namespace Go.Proofs.YtpmdnbdmocdngaaGreat
open Go.ChangeShapes Go.WideShapes Go.ChangeAt Go.RowKit
set_option linter.unusedVariables false
set_option linter.unusedSimpArgs false

section
variable {B : Nat} {τ : Nat → Nat} {w : World} {p n k q m gw ga capa gl capl cap : Nat} {d : Sd} {c : Cl} {A : Option Addr}
theorem look_fin (R : Sr B τ w p n d) (hW : Wat τ w p n q (d.F q) gw A cap) (hq : q < 2 * n) (hgq : q ≠ d.gq) (C : Cla τ w p m k c ga capa gl capl) (hk : d.cls[k]? = some c) (hl : 0 < c.ls.length) (hm : d.cls.length = m) (x : Nat × Nat) : ∀ (wp : World) (c1 g1 : Nat), (w.alloc (.cells #[.int .i32 (x.1 : Int), .int .i32 (x.2 : Int)] 211)).grownBy wp (Value.slice A (d.F q).length cap).ownBlock → wp.ownsRow 0 211 2 (.slice (some ⟨g1, 0, none⟩) ((d.F q).length + 1) c1) ((d.F q).length + 1) (watCells (d.F q) ++ [.int .i32 (x.1 : Int), .int .i32 (x.2 : Int)]) → ((Value.slice A (d.F q).length cap).ownBlock = some g1 ∨ g1 = w.heap.size + 1) →
    (wp.cell? ⟨gw, q, none⟩ = some (.slice A (d.F q).length cap) ∧ wp.frozen? ⟨gw, q, none⟩ = false ∧ wp.cell? ⟨p, 1, none⟩ = some (.slice (some ⟨gw, 0, none⟩) (2 * n) (2 * n))) ∧ (∀ (i q' : Nat), c.ls[i]? = some q' → wp.cell? ⟨gl, i, none⟩ = some (.int .i32 (q' : Int))) ∧ gl < wp.heap.size ∧
    ∃ τ', Sr B τ' (wp.setCell ⟨gw, q, none⟩ (.slice (some ⟨g1, 0, none⟩) ((d.F q).length + 1) c1)) p n { d with F := fun r => if r = q then d.F q ++ [x] else d.F r } ∧ Stp τ τ' w (wp.setCell ⟨gw, q, none⟩ (.slice (some ⟨g1, 0, none⟩) ((d.F q).length + 1) c1)) ∧ Cla τ' (wp.setCell ⟨gw, q, none⟩ (.slice (some ⟨g1, 0, none⟩) ((d.F q).length + 1) c1)) p m k c ga capa gl capl := fun wp c1 g1 hg hown hat => by
  obtain ⟨h0, τ', h1, h2⟩ := R.fin_wat hW hq hgq x wp c1 g1 hg hown hat
  have zp := R.plt
  have za := C.alt
  have zl := C.llt
  have rp := C.prole
  have ra := C.arole
  have rl := C.lrole
  have rw' := hW.wrole
  have hpw : p ≠ gw := fun e => by rw [e, rw'] at rp; omega
  have haw : ga ≠ gw := fun e => by rw [e, rw'] at ra; omega
  have bp : wp.heap[p]? = w.heap[p]? := (hg.block p (by simp; omega) (fun e => by have := hW.role p e.symm; omega)).trans (alloc_other zp)
  have ba : wp.heap[ga]? = w.heap[ga]? := (hg.block ga (by simp; omega) (fun e => by have := hW.role ga e.symm; omega)).trans (alloc_other za)
  have bl : wp.heap[gl]? = w.heap[gl]? := (hg.block gl (by simp; omega) (fun e => by have := hW.role gl e.symm; omega)).trans (alloc_other zl)
  exact ⟨h0, fun i q' hq' => (World.cell?_of_block (a := ⟨gl, i, none⟩) bl).trans (C.cell i q' hq'), Nat.lt_of_lt_of_le (by simp; omega) hg.size, τ', h1, h2, C.again h1 hk hl hm ((World.cell?_of_block (a := ⟨p, 0, none⟩) (set_other (p := ⟨gw, q, none⟩) hpw)).trans (World.cell?_of_block (a := ⟨p, 0, none⟩) bp)) ((set_other (p := ⟨gw, q, none⟩) haw).trans ba)⟩
end
end Go.Proofs.YtpmdnbdmocdngaaGreat
