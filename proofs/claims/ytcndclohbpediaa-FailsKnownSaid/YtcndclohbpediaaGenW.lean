/-
  Worlds: what has grown; blocks by themselves; a region whose calls make memory. Nothing of a program of its own.
-/
import Derived.Test.YtcndclohbpediaaRows
import Derived.ProofKit
import Derived.OpenShut
import Derived.Laws.Rows
import Derived.Laws.ResultCell
import Derived.ChangeSlices
import Derived.Deep.Slices
import Derived.SliceStrings
import Derived.Lib.SmallJoins
import Derived.Laws.OwnMore
import Derived.Lib.Hide
import Derived.Deep.QuietTactic
import Derived.BigQuiet
import Derived.Deep.Draws
import Derived.OwnWalk
import Derived.Deep.AppendLies
import Derived.Lib.AppendStr
import Derived.Deep.RegionHeld3
namespace Go.Proofs.Ytcndclohbpediaa
open Go.ChangeShapes Go.WideShapes Go.ChangeAt Go.RowKit Go.Joins
set_option linter.unusedVariables false

theorem set_new (w : World) (c : Array Value) (t : TypeId) (i : Nat) (v : Value) : (w.alloc (.cells c t)).setCell ⟨w.heap.size, i, none⟩ v = w.alloc (.cells (c.setIfInBounds i v) t) := by
  simp only [World.setCell, World.alloc]
  congr 1
  apply Array.ext_getElem?
  intro j
  rw [Array.getElem?_modify]
  by_cases h : w.heap.size = j
  · subst h
    simp
  · have h' : ¬ j = w.heap.size := fun e => h e.symm
    simp [h, h', Array.getElem?_push]
theorem grown_row {W w' : World} (G : Grown W w') {b : Nat} {c : Array Value} {t : TypeId} {fr : Nat × Nat} (h : W.heap[b]? = some (.cells c t fr)) : w'.heap[b]? = some (.cells c t fr) := by
  have hb : b < W.heap.size := (Array.getElem?_eq_some_iff.mp h).1
  have k := G.1.2.2 b hb
  rw [h] at k
  split at k
  case h_1 x c1 t1 f1 c' t' f' h1 h2 =>
    simp only [Option.some.injEq, Obj.cells.injEq] at h1
    obtain ⟨rfl, rfl, rfl⟩ := h1
    obtain ⟨rfl, rfl, e3, e4⟩ := k
    rw [h2]
    congr 2
    exact Array.ext_getElem? fun j => e4 j (fun h => h)
  case h_2 h1 _ => simp at h1
  case h_3 o o' h1 h2 => exact k.symm ▸ rfl
theorem grown_trans {a b c : World} (h1 : Grown a b) (h2 : Grown b c) : Grown a c := by
  refine ⟨World.keptBut_trans h1.1 ?_, fun a => (h2.2.1 a).trans (h1.2.1 a), Nat.le_trans h1.2.2 h2.2.2⟩
  exact h2.1
theorem results_row2 {fn : Func} {p q : Tmp} {ty : TypeId} (h : fn.results = #[.cell p ty, .tmp q]) (tmps : Array Value) (w : World) (g : Nat) (t : TypeId) (cs : Array Value) (fr : Nat × Nat) (fs : Array Field)
    (hp : tmps.getD p undef = .pointer (some ⟨g, 0, none⟩)) (hg : w.heap[g]? = some (.cells cs t fr))
    (hu : Try.prog.underlying ty = some (.struct fs)) (hi : (Try.prog.info? ty).map (·.size) = some cs.size) :
    (results fn tmps).run Try.prog w = .ok (.tuple #[.agg cs, tmps.getD q undef]) w := by
  have hp' : tmps[p]?.getD undef = .pointer (some ⟨g, 0, none⟩) := by simpa using hp
  rw [results_cell_tmp h]
  simp [hp', asAddr, run_loadVar_row w g t ty cs fr _ hg hu rfl hi]
theorem set_any (w : World) (g i : Nat) (c : Array Value) (t : TypeId) (fr : Nat × Nat) (v : Value) (h : w.heap[g]? = some (.cells c t fr)) : (w.setCell ⟨g, i, none⟩ v).heap[g]? = some (.cells (c.setIfInBounds i v) t fr) := by
  simp [World.setCell, Array.getElem?_modify, h]
theorem two_cells {w : World} {g : Nat} {a b : Value} {t : TypeId} (h : w.heap[g]? = some (.cells #[a, b] t (0, 0))) :
    w.cell? ⟨g, 0, none⟩ = some a ∧ w.cell? ⟨g, 1, none⟩ = some b ∧ w.frozen? ⟨g, 0, none⟩ = false ∧ w.frozen? ⟨g, 1, none⟩ = false := by
  simp [World.cell?, World.frozen?, h]
theorem sizes {W w' : World} {o : Obj} (h : Grown (W.alloc o) w') : W.heap.size < w'.heap.size := by
  have := h.2.2
  have e : (W.alloc o).heap.size = W.heap.size + 1 := by show (W.heap.push o).size = _; simp
  omega
theorem add_eq (g off k : Nat) : ((⟨g, off, none⟩ : Addr).add k) = ⟨g, off + k, none⟩ := by
  unfold Addr.add
  split
  · rename_i h0; subst h0; rfl
  · rfl
theorem i64_wrap_in (n : Int) (h0 : 0 ≤ n) (h1 : n ≤ 9223372036854775807) : wrap64 n = n := by
  unfold wrap64; omega
theorem add_grown (w : World) (o : Obj) (k : Nat) (hk : k < w.heap.size) : (w.alloc o).heap[k]? = w.heap[k]? := Below.heap_alloc w o k hk
theorem alloc_size (w : World) (o : Obj) : w.heap.size ≤ (w.alloc o).heap.size := by show w.heap.size ≤ (w.heap.push o).size; simp
theorem grown_block {W w' : World} (G : Grown W w') {b : Nat} (hb : b < W.heap.size) : w'.heap[b]? = W.heap[b]? := by
  obtain ⟨o, ho⟩ : ∃ o, W.heap[b]? = some o := ⟨_, Array.getElem?_eq_getElem hb⟩
  cases o with
  | cells c t fr => rw [ho]; exact grown_row G ho
  | map es c =>
    have k := G.1.2.2 b hb
    rw [ho] at k ⊢
    split at k
    case h_1 h1 _ => simp at h1
    case h_2 x e1 c1 e2 c2 h1 h2 =>
      simp only [Option.some.injEq, Obj.map.injEq] at h1
      obtain ⟨rfl, rfl⟩ := h1
      rcases k with k | ⟨rfl, rfl⟩
      · exact k.elim
      · exact h2
    case h_3 => exact k
  | _ =>
    have k := G.1.2.2 b hb
    rw [ho] at k ⊢
    split at k
    case h_1 h1 _ => simp at h1
    case h_2 h1 _ => simp at h1
    case h_3 => exact k
/-- What was there is as it was; of the tape nothing is said. -/
def Gw (W W' : World) : Prop := Below W.heap.size W { W' with tape := W.tape }
theorem Gw.refl (W : World) : Gw W W := Below.refl _ _
theorem Gw.below {W W' : World} (h : Gw W W') : Below W.heap.size W { W' with tape := W.tape } := h
theorem Gw.os {W W' : World} (h : Gw W W') : W'.os = W.os := h.below.os
theorem Gw.output {W W' : World} (h : Gw W W') : W'.output = W.output := h.below.output
theorem Gw.size {W W' : World} (h : Gw W W') : W.heap.size ≤ W'.heap.size := h.below.size
theorem Gw.block {W W' : World} (h : Gw W W') (k : Nat) (hk : k < W.heap.size) : W'.heap[k]? = W.heap[k]? := h.below.block k hk
theorem Grown.gw {W W' : World} (h : Grown W W') : Gw W W' := ⟨h.1.1, rfl, h.1.2.1, h.2.2, fun _ hk => grown_block h hk⟩
theorem Gw.trans {a b c : World} (h : Gw a b) (k : Gw b c) : Gw a c :=
  ⟨k.os.trans h.os, rfl, k.output.trans h.output, Nat.le_trans h.size k.size, fun i hi => (k.block i (Nat.lt_of_lt_of_le hi h.size)).trans (h.block i hi)⟩
theorem Gw.drew {a w : World} (h : Gw a w) : Gw a w.drew := ⟨h.os, rfl, h.output, h.size, h.block⟩
theorem Gw.alloc (w : World) (o : Obj) : Gw w (w.alloc o) :=
  ⟨rfl, rfl, rfl, by show w.heap.size ≤ (w.heap.push o).size; simp, fun k hk => Below.heap_alloc w o k hk⟩
theorem Gw.grown {a w w' : World} {row : Option Nat} (h : Gw a w) (hg : w.grownBy w' row) (hr : ∀ k, row = some k → a.heap.size ≤ k) : Gw a w' :=
  ⟨hg.os.trans h.os, rfl, hg.output.trans h.output, Nat.le_trans h.size hg.size, fun k hk => (hg.block k (Nat.lt_of_lt_of_le hk h.size) (fun e => by have := hr k e.symm; omega)).trans (h.block k hk)⟩
theorem lt_cell {w : World} {g i : Nat} {v : Value} (h : w.cell? ⟨g, i, none⟩ = some v) : g < w.heap.size := World.block_lt_of_cell? w _ h
theorem Gw.cell {W W' : World} (h : Gw W W') {g i : Nat} {v : Value} (hc : W.cell? ⟨g, i, none⟩ = some v) : W'.cell? ⟨g, i, none⟩ = some v := (World.cell?_of_block (h.block g (lt_cell hc))).trans hc
/-- A world in which S is so. -/
structure InP (S : World → Prop) where
  val : World
  ok : S val
theorem toP {S : World → Prop} (hS : ∀ a b, S a → Grown a b → S b) {f : FuncId} {args : Array Value} {v : Value} {n : InP S} (h : Calls Try.prog f args n.val fun e w' => e = .returned v ∧ Grown n.val w') :
    Calls Try.prog f args n.val fun e w'' => e = .returned v ∧ ∃ m : InP S, w'' = m.val :=
  h.mono fun _ w' ⟨he, G⟩ => ⟨he, ⟨w', hS _ _ n.ok G⟩, rfl⟩
theorem region_p {S : World → Prop} {id : Nat} {Q : Exit → Act → World → Prop} {a : Act} {w : World} {l : List Oper} (hm : Try.prog.follows .mixedOrders = true) (hB : Region.lexB .any l.toArray = true)
    (hs : S { w with drawn := w.drawn + 1 })
    (h : wpQuiet Try.prog l.toArray (fun w' => ∃ n : InP S, w' = n.val) (fun a' => ∀ w', (∃ n : InP S, w' = n.val) → Q .normal a' w') l a) : (Code.region id l.toArray true).wp Try.prog Q a w :=
  wp_region_quiet (C := fun w' => ∃ n : InP S, w' = n.val) hm hB ⟨⟨_, hs⟩, rfl⟩ (by simpa using h)
theorem post_kept {H : Type} {enc : TypeId × Value → H} {P : Program} {f : Func} {s : ChangeSpec} {apart fresh handsOn again : Bool} {W W' : World} {args : Array Value} {v : Value} {ds gs : List (DataW H)} {before pa pv : List MemPlace}
    (hW : DataW.Whole enc P f.params.toList s.vars apart W args.toList ds gs before) (hb : Gw W W')
    (hres : ∀ (b : Nat) (sp : Nat → Bool) (hd : Bool), DataW.TrodAll enc P W' b sp hd f.resultTypes.toList (v.resultList f.resultTypes.size) (s.fn H (ds ++ gs)).results [])
    (hargs : ∀ sp : Nat → Bool, (∀ p ∈ before, sp p.block = true) → DataW.TrodAll enc P W' 0 sp true f.params.toList args.toList (s.fn H (ds ++ gs)).args pa)
    (hvars : ∀ sp : Nat → Bool, (∀ p ∈ before, sp p.block = true) → DataW.TrodVars enc P W' sp s.vars (s.fn H (ds ++ gs)).vars pv) (hps : before = pa ++ pv)
    (hok : ∀ (j : Nat) (t : TypeId) (r : Value), f.resultTypes[j]? = some t → (v.resultList f.resultTypes.size)[j]? = some r → Value.okWide P W' .any 0 t r) : s.post enc P f apart fresh handsOn again W args v W' := by
  have lt : ∀ p ∈ before, p.block < W.heap.size := fun p hp => hW.lt p hp
  subst hps
  have Rall := hargs (fun _ => true) (fun _ _ => rfl)
  have Vall := hvars (fun _ => true) (fun _ _ => rfl)
  have Rold := hargs (fun b => decide (b < W.heap.size)) (fun p hp => decide_eq_true (lt p hp))
  have Vold := hvars (fun b => decide (b < W.heap.size)) (fun p hp => decide_eq_true (lt p hp))
  have places := hW
  obtain ⟨_, _, _, _, _, cold, single⟩ := places
  have fr : W.keptBut W' (· ∈ pa ++ pv) := Below.frame hb.below _
  have fz : ∀ a : Addr, a.block < W.heap.size → W'.frozen? a = W.frozen? a := fun a ha => Below.frozen hb.below ha
  exact ⟨ds, gs, pa ++ pv, [], pa, pv, hW, hres _ _ _, Rold, Vold, World.keptBut_mono (fun p hp => ⟨hp, .inr (List.mem_append.1 hp)⟩) fr, fun _ =>
    ⟨hok, _, _, ([] ++ pa) ++ pv, ⟨[] ++ pa, pv, trodAll_append Rall (hres _ _ _), Vall, rfl, fun b o hp => (fz _ (lt _ hp)).trans (cold b o hp), single⟩, fun p hp _ => hp⟩⟩
theorem step_append_string {P : Program} (w : World) {ops : Array Oper} {o : Oper} {a : Act} {K : Act → World → Prop} {Q : Exit → Act → World → Prop} {E : Prop} (hgd : o.guard = none) (sl x : Operand) (t u : TypeId)
    (ho : o.op = .call { callee := .builtin .append, args := #[sl, x], argTypes := #[t, u] })
    (base : Nat) (e : TypeId) (i : TypeInfo) (ht : P.underlying t = some (.slice e)) (hu : P.underlying u = some .string) (hi : P.info? e = some i) (hz : i.zero = some (.int .u8 0))
    (hsize : i.size = 1) (hby : i.bytes = 1)
    (v : Value) (n : Nat) (xs : List Value) (hs : a.eval sl = v) (hown : w.ownsRow base e 1 v n xs) (s : ByteArray) (hx : a.eval x = .string s)
    (h63 : n + s.size ≤ maxLen) (hbytes : n + s.size ≤ 140737488355328) (hbase : base ≤ w.heap.size)
    (h : ∀ v' w', w'.ownsRow base e 1 v' (n + s.size) (xs ++ Lib.strCells s) → w.grownBy w' v.ownBlock → (v' = .slice none 0 0 ↔ v = .slice none 0 0 ∧ s.size = 0) → K (a.put o.dst v') w') :
    if Region.wanted o (yielded ops a.tmps) = true then Oper.wp P o a w K Q else E := by
  have hw : Region.wanted o (yielded ops a.tmps) = true := by simp [Region.wanted, hgd]
  rw [if_pos hw]
  obtain ⟨v', w', hr, h2, h3, h4⟩ := Lib.run_append_own_string (P := P) w base t u o.type e i ht hu hi hz hsize hby v n xs hown s h63 hbytes hbase
  unfold Oper.wp execOp
  simp only [ho, resolve, invoke, builtin, Sem.run_bind, Sem.run_pure, Result.andThen_ok, List.map_toArray, List.map_cons, List.map_nil, hs, hx, hr]
  exact h v' w' h2 h3 h4
theorem set_other {w : World} {p : Addr} {u : Value} {k : Nat} (h : k ≠ p.block) : (w.setCell p u).heap[k]? = w.heap[k]? := Below.heap_setCell w p u k h
/-- A block's cells. -/
def Has (w : World) (g : Nat) (t : TypeId) (cs : Array Value) : Prop := w.heap[g]? = some (.cells cs t (0, 0))
section
variable {w w' : World} {g : Nat} {t : TypeId} {cs : Array Value}
theorem lt_of_heap {o : Obj} (h : w.heap[g]? = some o) : g < w.heap.size := (Array.getElem?_eq_some_iff.1 h).1
theorem Has.lt (h : Has w g t cs) : g < w.heap.size := lt_of_heap h
theorem Has.cell (h : Has w g t cs) (i : Nat) : w.cell? ⟨g, i, none⟩ = cs[i]? := by unfold World.cell?; rw [show w.heap[g]? = _ from h]; rfl
theorem Has.free (h : Has w g t cs) (i : Nat) : w.frozen? ⟨g, i, none⟩ = false := by unfold World.frozen?; rw [show w.heap[g]? = _ from h]; simp
theorem Has.new (w : World) (t : TypeId) (cs : Array Value) : Has (w.alloc (.cells cs t)) w.heap.size t cs := heap_alloc_new w _
theorem Has.same (h : Has w g t cs) (e : w'.heap[g]? = w.heap[g]?) : Has w' g t cs := Eq.trans e h
theorem Has.put (h : Has w g t cs) (i : Nat) (u : Value) : Has (w.setCell ⟨g, i, none⟩ u) g t (cs.setIfInBounds i u) := heap_setCell_same w g i cs t u h
theorem Has.on (h : Has w g t cs) (G : Gw w w') : Has w' g t cs := h.same (G.block g h.lt)
end
theorem size_alloc (w : World) (o : Obj) : (w.alloc o).heap.size = w.heap.size + 1 := by show (w.heap.push o).size = _; simp
/-- All is as it was but block g; new blocks may be there. -/
structure But (g : Nat) (W W' : World) : Prop where
  os : W'.os = W.os
  output : W'.output = W.output
  size : W.heap.size ≤ W'.heap.size
  block : ∀ k, k < W.heap.size → k ≠ g → W'.heap[k]? = W.heap[k]?
theorem But.refl (g : Nat) (W : World) : But g W W := ⟨rfl, rfl, Nat.le_refl _, fun _ _ _ => rfl⟩
theorem But.trans {g : Nat} {a b c : World} (h : But g a b) (k : But g b c) : But g a c :=
  ⟨k.os.trans h.os, k.output.trans h.output, Nat.le_trans h.size k.size, fun i hi hg => (k.block i (Nat.lt_of_lt_of_le hi h.size) hg).trans (h.block i hi hg)⟩
theorem But.set (g : Nat) (W : World) (i : Nat) (u : Value) : But g W (W.setCell ⟨g, i, none⟩ u) :=
  ⟨rfl, rfl, by simp, fun k _ hk => set_other (p := ⟨g, i, none⟩) hk⟩
theorem But.gw {g : Nat} {w0 W W' : World} (h : But g W W') (G : Gw w0 W) (hg : w0.heap.size ≤ g) : Gw w0 W' :=
  ⟨h.os.trans G.os, rfl, h.output.trans G.output, Nat.le_trans G.size h.size, fun k hk => (h.block k (Nat.lt_of_lt_of_le hk G.size) (by omega)).trans (G.block k hk)⟩
theorem Gw.but {g : Nat} {W W' : World} (h : Gw W W') : But g W W' := ⟨h.os, h.output, h.size, fun k hk _ => h.block k hk⟩
theorem But.has {g k : Nat} {W W' : World} {t : TypeId} {cs : Array Value} (h : But g W W') (hk : k ≠ g) (hh : Has W k t cs) : Has W' k t cs := hh.same (h.block k hh.lt hk)
/-- A row of the call's own, kept. -/
theorem own_keep {w w' : World} {base : Nat} {e : TypeId} {size n : Nat} {v : Value} {xs : List Value} (h : w.ownsRow base e size v n xs) (k : ∀ b, base ≤ b → b < w.heap.size → w'.heap[b]? = w.heap[b]?) : w'.ownsRow base e size v n xs := by
  refine ⟨h.1, ?_⟩
  rcases h.2 with h0 | ⟨b, cap, cur, h0, h1, h2, h3⟩
  · exact .inl h0
  · exact .inr ⟨b, cap, cur, h0, h1, (k b h1 (lt_of_heap h2)).trans h2, h3⟩
theorem box1 {W : World} {pb : Nat} {t : TypeId} {a v : Value} (h : Has W pb t #[a, v]) : W.cell? ⟨pb, 1, none⟩ = some v ∧ W.frozen? ⟨pb, 1, none⟩ = false := ⟨h.cell 1, h.free 1⟩
theorem box0 {W : World} {pb : Nat} {t : TypeId} {a v : Value} (h : Has W pb t #[a, v]) : W.cell? ⟨pb, 0, none⟩ = some a ∧ W.frozen? ⟨pb, 0, none⟩ = false := ⟨h.cell 0, h.free 0⟩
theorem toG {S : World → Prop} (hS : ∀ a b, S a → Gw a b → S b) {f : FuncId} {args : Array Value} {v : Value} {n : InP S} (h : Calls Try.prog f args n.val fun e w' => e = .returned v ∧ Gw n.val w') :
    Calls Try.prog f args n.val fun e w'' => e = .returned v ∧ ∃ m : InP S, w'' = m.val :=
  h.mono fun _ w' ⟨he, G⟩ => ⟨he, ⟨w', hS _ _ n.ok G⟩, rfl⟩
theorem wrap_in {a : Int} (h0 : -9223372036854775808 ≤ a) (h1 : a ≤ 9223372036854775807) : IntKind.i64.wrap a = a := by
  simp only [IntKind.wrap, IntKind.bits, IntKind.signed]
  simp
  omega
theorem byte_at {s : ByteArray} {l : List UInt8} {k : Nat} {c : UInt8} (hl : l = s.data.toList) (hc : l[k]? = some c) (hk : k < s.size) : s[k] = c := by
  subst hl
  rw [Array.getElem?_toList] at hc
  exact (Array.getElem?_eq_some_iff.1 hc).2
theorem all_take {l : List UInt8} {k : Nat} {c : UInt8} {p : UInt8 → Bool} (h : l[k]? = some c) : (l.take (k + 1)).all p = ((l.take k).all p && p c) := by
  obtain ⟨hi, he⟩ := List.getElem?_eq_some_iff.1 h
  rw [List.take_succ_eq_append_getElem hi, he]
  simp
theorem box3 {W : World} {g : Nat} {t : TypeId} {a b c : Value} (h : Has W g t #[a, b, c]) : W.cell? ⟨g, 0, none⟩ = some a ∧ W.cell? ⟨g, 1, none⟩ = some b ∧ W.cell? ⟨g, 2, none⟩ = some c ∧ W.frozen? ⟨g, 0, none⟩ = false ∧ W.frozen? ⟨g, 1, none⟩ = false ∧ W.frozen? ⟨g, 2, none⟩ = false := ⟨h.cell 0, h.cell 1, h.cell 2, h.free 0, h.free 1, h.free 2⟩
theorem own_base {w : World} {b B : Nat} {e : TypeId} {size n : Nat} {v : Value} {xs : List Value} (h : w.ownsRow B e size v n xs) (k : b ≤ B) : w.ownsRow b e size v n xs := by
  refine ⟨h.1, ?_⟩
  rcases h.2 with h0 | ⟨g, cap, cur, h0, h1, h2, h3⟩
  · exact .inl h0
  · exact .inr ⟨g, cap, cur, h0, Nat.le_trans k h1, h2, h3⟩
end Go.Proofs.Ytcndclohbpediaa
