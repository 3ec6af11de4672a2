/-
  What InstAll's walk speaks of: the worlds that have grown, whatever the tape; the row of names; a region whose calls make memory.
-/
import Derived.Test.YtdpnbacjlfbfjaaInstE
import Derived.Laws.OwnMore
import Derived.OwnWalk
import Derived.Deep.AppendLies
import Derived.Lib.Hide
namespace Go.Proofs.Ytdpnbacjlfbfjaa
open Go.ChangeShapes Go.WideShapes Go.ChangeAt Go.RowKit
set_option linter.unusedVariables false

theorem grown_block {W w' : World} (G : Grown W w') {b : Nat} (hb : b < W.heap.size) : w'.heap[b]? = W.heap[b]? := by
  obtain ⟨o, ho⟩ : ∃ o, W.heap[b]? = some o := ⟨_, Array.getElem?_eq_getElem hb⟩
  cases o with
  | cells c t fr => rw [ho]; exact grown_row G ho
  | map es c =>
    have k := G.1.2.2 b hb
    rw [ho] at k ⊢
    split at k
    case h_1 h1 _ => simp at h1
    case h_2 x e1 c1 e2 c2 h1 h2 =>
      simp only [Option.some.injEq, Obj.map.injEq] at h1
      obtain ⟨rfl, rfl⟩ := h1
      rcases k with k | ⟨rfl, rfl⟩
      · exact k.elim
      · exact h2
    case h_3 => exact k
  | _ =>
    have k := G.1.2.2 b hb
    rw [ho] at k ⊢
    split at k
    case h_1 h1 _ => simp at h1
    case h_2 h1 _ => simp at h1
    case h_3 => exact k
/-- What was there is as it was; of the tape nothing is said. -/
def Gw (W W' : World) : Prop := Below W.heap.size W { W' with tape := W.tape }
theorem Gw.refl (W : World) : Gw W W := Below.refl _ _
theorem Gw.below {W W' : World} (h : Gw W W') : Below W.heap.size W { W' with tape := W.tape } := h
theorem Gw.os {W W' : World} (h : Gw W W') : W'.os = W.os := h.below.os
theorem Gw.output {W W' : World} (h : Gw W W') : W'.output = W.output := h.below.output
theorem Gw.size {W W' : World} (h : Gw W W') : W.heap.size ≤ W'.heap.size := h.below.size
theorem Gw.block {W W' : World} (h : Gw W W') (k : Nat) (hk : k < W.heap.size) : W'.heap[k]? = W.heap[k]? := h.below.block k hk
theorem Grown.gw {W W' : World} (h : Grown W W') : Gw W W' := ⟨h.1.1, rfl, h.1.2.1, h.2.2, fun _ hk => grown_block h hk⟩
theorem Gw.trans {a b c : World} (h : Gw a b) (k : Gw b c) : Gw a c :=
  ⟨k.os.trans h.os, rfl, k.output.trans h.output, Nat.le_trans h.size k.size, fun i hi => (k.block i (Nat.lt_of_lt_of_le hi h.size)).trans (h.block i hi)⟩
theorem Gw.alloc (w : World) (o : Obj) : Gw w (w.alloc o) :=
  ⟨rfl, rfl, rfl, by show w.heap.size ≤ (w.heap.push o).size; simp, fun k hk => Below.heap_alloc w o k hk⟩
theorem Gw.grown {a w w' : World} {row : Option Nat} (h : Gw a w) (hg : w.grownBy w' row) (hr : ∀ k, row = some k → a.heap.size ≤ k) : Gw a w' :=
  ⟨hg.os.trans h.os, rfl, hg.output.trans h.output, Nat.le_trans h.size hg.size, fun k hk => (hg.block k (Nat.lt_of_lt_of_le hk h.size) (fun e => by have := hr k e.symm; omega)).trans (h.block k hk)⟩
/-- The names of the first m instructions. -/
def nms (m : Nat) : List Value := (List.range m).map fun j => Value.string (nm (j + 1))
theorem nms_len (m : Nat) : (nms m).length = m := by simp [nms]
theorem nms_succ (m : Nat) : nms (m + 1) = nms m ++ [.string (nm (m + 1))] := by simp [nms, List.range_succ]
theorem nms_at (m j : Nat) (h : j < m) : (nms m)[j]? = some (.string (nm (j + 1))) := by simp [nms, h]
structure NRel (w wr : World) (v : Value) (m : Nat) : Prop where
  own : wr.ownsRow w.heap.size 9 1 v m (nms m)
  gw : Gw w wr
theorem NRel.start {w wr : World} (h : Gw w wr) : NRel w wr (.slice none 0 0) 0 := ⟨⟨rfl, .inl ⟨rfl, rfl⟩⟩, h⟩
theorem NRel.next {w wr w' : World} {v : Value} {m : Nat} (h : NRel w wr v m) (g : Grown wr w') : NRel w w' v m := by
  refine ⟨⟨h.own.1, ?_⟩, h.gw.trans (Grown.gw g)⟩
  rcases h.own.2 with h0 | ⟨b, cap, cur, h0, h1, h2, h3⟩
  · exact .inl h0
  · exact .inr ⟨b, cap, cur, h0, h1, grown_row g h2, h3⟩
theorem NRel.drew {w wr : World} {v : Value} {m : Nat} (h : NRel w wr v m) : NRel w { wr with drawn := wr.drawn + 1 } v m := ⟨h.own, ⟨h.gw.os, rfl, h.gw.output, h.gw.size, h.gw.block⟩⟩
theorem NRel.more {w wr w' : World} {v : Value} {m g cap : Nat} {o : Obj} (h : NRel w wr v m) (ho : w'.ownsRow w.heap.size 9 1 (.slice (some ⟨g, 0, none⟩) (m + 1) cap) (m + 1) (nms m ++ [.string (nm (m + 1))]))
    (hg : (wr.alloc o).grownBy w' v.ownBlock) : NRel w w' (.slice (some ⟨g, 0, none⟩) (m + 1) cap) (m + 1) := by
  refine ⟨by rw [nms_succ]; exact ho, (h.gw.trans (Gw.alloc wr o)).grown hg fun k hk => ?_⟩
  rcases h.own.2 with ⟨h0, _⟩ | ⟨g', c, cur, h0, hb, _⟩
  · subst h0; simp [Value.ownBlock] at hk
  · subst h0; simp [Value.ownBlock] at hk; omega
theorem NRel.form {w wr : World} {A : Option Addr} {m cap : Nat} (h : NRel w wr (.slice A m cap) m) (hm : 0 < m) : ∃ g, A = some ⟨g, 0, none⟩ ∧ ∀ j, j < m → wr.cell? ⟨g, j, none⟩ = some (.string (nm (j + 1))) := by
  rcases h.own.2 with ⟨_, h0⟩ | ⟨g', c, cur, h0, hb, _⟩
  · omega
  · injection h0 with h1 h2 h3
    subst h1 h3
    exact ⟨g', rfl, fun j hj => by rw [World.ownsRow.cellAt h.own j (by omega)]; exact nms_at m j hj⟩
/-- A world in which S is so. -/
structure InP (S : World → Prop) where
  val : World
  ok : S val
theorem toP {S : World → Prop} (hS : ∀ a b, S a → Grown a b → S b) {f : FuncId} {args : Array Value} {v : Value} {n : InP S} (h : Calls Try.prog f args n.val fun e w' => e = .returned v ∧ Grown n.val w') :
    Calls Try.prog f args n.val fun e w'' => e = .returned v ∧ ∃ m : InP S, w'' = m.val :=
  h.mono fun _ w' ⟨he, G⟩ => ⟨he, ⟨w', hS _ _ n.ok G⟩, rfl⟩
theorem region_p {S : World → Prop} {id : Nat} {Q : Exit → Act → World → Prop} {a : Act} {w : World} {l : List Oper} (hm : Try.prog.follows .mixedOrders = true) (hB : Region.lexB .any l.toArray = true)
    (hs : S { w with drawn := w.drawn + 1 })
    (h : wpQuiet Try.prog l.toArray (fun w' => ∃ n : InP S, w' = n.val) (fun a' => ∀ w', (∃ n : InP S, w' = n.val) → Q .normal a' w') l a) : (Code.region id l.toArray true).wp Try.prog Q a w :=
  wp_region_quiet (C := fun w' => ∃ n : InP S, w' = n.val) hm hB ⟨⟨_, hs⟩, rfl⟩ (by simpa using h)
theorem post_kept {H : Type} {enc : TypeId × Value → H} {P : Program} {f : Func} {s : ChangeSpec} {apart fresh handsOn again : Bool} {W W' : World} {args : Array Value} {v : Value} {ds gs : List (DataW H)} {before pa pv : List MemPlace}
    (hW : DataW.Whole enc P f.params.toList s.vars apart W args.toList ds gs before) (hb : Gw W W')
    (hres : ∀ (b : Nat) (sp : Nat → Bool) (hd : Bool), DataW.TrodAll enc P W' b sp hd f.resultTypes.toList (v.resultList f.resultTypes.size) (s.fn H (ds ++ gs)).results [])
    (hargs : ∀ sp : Nat → Bool, (∀ p ∈ before, sp p.block = true) → DataW.TrodAll enc P W' 0 sp true f.params.toList args.toList (s.fn H (ds ++ gs)).args pa)
    (hvars : ∀ sp : Nat → Bool, (∀ p ∈ before, sp p.block = true) → DataW.TrodVars enc P W' sp s.vars (s.fn H (ds ++ gs)).vars pv) (hps : before = pa ++ pv)
    (hok : ∀ (j : Nat) (t : TypeId) (r : Value), f.resultTypes[j]? = some t → (v.resultList f.resultTypes.size)[j]? = some r → Value.okWide P W' .any 0 t r) : s.post enc P f apart fresh handsOn again W args v W' := by
  have lt : ∀ p ∈ before, p.block < W.heap.size := fun p hp => hW.lt p hp
  subst hps
  have Rall := hargs (fun _ => true) (fun _ _ => rfl)
  have Vall := hvars (fun _ => true) (fun _ _ => rfl)
  have Rold := hargs (fun b => decide (b < W.heap.size)) (fun p hp => decide_eq_true (lt p hp))
  have Vold := hvars (fun b => decide (b < W.heap.size)) (fun p hp => decide_eq_true (lt p hp))
  have places := hW
  obtain ⟨_, _, _, _, _, cold, single⟩ := places
  have fr : W.keptBut W' (· ∈ pa ++ pv) := Below.frame hb.below _
  have fz : ∀ a : Addr, a.block < W.heap.size → W'.frozen? a = W.frozen? a := fun a ha => Below.frozen hb.below ha
  exact ⟨ds, gs, pa ++ pv, [], pa, pv, hW, hres _ _ _, Rold, Vold, World.keptBut_mono (fun p hp => ⟨hp, .inr (List.mem_append.1 hp)⟩) fr, fun _ =>
    ⟨hok, _, _, ([] ++ pa) ++ pv, ⟨[] ++ pa, pv, trodAll_append Rall (hres _ _ _), Vall, rfl, fun b o hp => (fz _ (lt _ hp)).trans (cold b o hp), single⟩, fun p hp _ => hp⟩⟩
theorem infoStr : (Try.prog.info? 9).map (fun i => (i.zero, i.size, i.bytes)) = some (some (.string ⟨#[]⟩), 1, 16) := by kernel_rfl
theorem info_str : ∃ i, Try.prog.info? 9 = some i ∧ i.zero = some (.string ⟨#[]⟩) ∧ i.size = 1 ∧ i.bytes = 16 := by
  have h := infoStr
  cases hi : Try.prog.info? 9 with
  | none => rw [hi] at h; simp at h
  | some i =>
    rw [hi] at h
    simp only [Option.map_some, Option.some.injEq, Prod.mk.injEq] at h
    exact ⟨i, rfl, h.1, h.2.1, h.2.2⟩
theorem all_ok (m : Nat) (h : m < 41) : 0 ≤ tk (m + 1) ∧ tk (m + 1) ≤ 3 ∧ 0 ≤ gv (m + 1) ∧ gv (m + 1) ≤ 2 ∧ mayB (m + 1) 0 = true ∧ mayB (m + 1) (-1) = false ∧ mayB (m + 1) 65536 = false ∧ (nm (m + 1)).toList.isEmpty = false := by
  have all : ∀ j : Fin 41, 0 ≤ tk (j.val + 1) ∧ tk (j.val + 1) ≤ 3 ∧ 0 ≤ gv (j.val + 1) ∧ gv (j.val + 1) ≤ 2 ∧ mayB (j.val + 1) 0 = true ∧ mayB (j.val + 1) (-1) = false ∧ mayB (j.val + 1) 65536 = false ∧ (nm (j.val + 1)).toList.isEmpty = false := by decide +kernel
  exact all ⟨m, h⟩
theorem nm_ne (m j : Nat) (h : m < 41) (hj : j < m) : ((nm (j + 1)).toList == (nm (m + 1)).toList) = false := by
  have all : ∀ m : Fin 41, ∀ j : Fin 41, j.val < m.val → ((nm (j.val + 1)).toList == (nm (m.val + 1)).toList) = false := by decide +kernel
  exact all ⟨m, h⟩ ⟨j, by omega⟩ hj
end Go.Proofs.Ytdpnbacjlfbfjaa
