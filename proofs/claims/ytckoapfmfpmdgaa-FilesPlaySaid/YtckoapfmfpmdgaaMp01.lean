/-
  Parts of the proof, joined: GenW, NameA, NameM, TreeM.
-/
import Derived.Test.YtckoapfmfpmdgaaRows
import Derived.ProofKit
import Derived.OpenShut
import Derived.Laws.Rows
import Derived.Laws.ResultCell
import Derived.ChangeSlices
import Derived.Deep.Slices
import Derived.SliceStrings
import Derived.Lib.SmallJoins
import Derived.Laws.OwnMore
import Derived.Lib.Hide
import Derived.Deep.QuietTactic
import Derived.BigQuiet
import Derived.Deep.Draws
import Derived.OwnWalk
import Derived.Deep.AppendLies
import Derived.Lib.AppendStr
import Derived.Deep.RegionHeld3
import Derived.Sort.Walk0

namespace Go.Proofs.Ytckoapfmfpmdgaa
open Go.ChangeShapes Go.WideShapes Go.ChangeAt Go.RowKit Go.Joins
set_option linter.unusedVariables false

theorem grown_row {W w' : World} (G : Grown W w') {b : Nat} {c : Array Value} {t : TypeId} {fr : Nat × Nat} (h : W.heap[b]? = some (.cells c t fr)) : w'.heap[b]? = some (.cells c t fr) := by
  have hb : b < W.heap.size := (Array.getElem?_eq_some_iff.mp h).1
  have k := G.1.2.2 b hb
  rw [h] at k
  split at k
  case h_1 x c1 t1 f1 c' t' f' h1 h2 =>
    simp only [Option.some.injEq, Obj.cells.injEq] at h1
    obtain ⟨rfl, rfl, rfl⟩ := h1
    obtain ⟨rfl, rfl, e3, e4⟩ := k
    rw [h2]
    congr 2
    exact Array.ext_getElem? fun j => e4 j (fun h => h)
  case h_2 h1 _ => simp at h1
  case h_3 o o' h1 h2 => exact k.symm ▸ rfl
theorem results_row2 {fn : Func} {p q : Tmp} {ty : TypeId} (h : fn.results = #[.cell p ty, .tmp q]) (tmps : Array Value) (w : World) (g : Nat) (t : TypeId) (cs : Array Value) (fr : Nat × Nat) (fs : Array Field)
    (hp : tmps.getD p undef = .pointer (some ⟨g, 0, none⟩)) (hg : w.heap[g]? = some (.cells cs t fr))
    (hu : Try.prog.underlying ty = some (.struct fs)) (hi : (Try.prog.info? ty).map (·.size) = some cs.size) :
    (results fn tmps).run Try.prog w = .ok (.tuple #[.agg cs, tmps.getD q undef]) w := by
  have hp' : tmps[p]?.getD undef = .pointer (some ⟨g, 0, none⟩) := by simpa using hp
  rw [results_cell_tmp h]
  simp [hp', asAddr, run_loadVar_row w g t ty cs fr _ hg hu rfl hi]
theorem add_eq (g off k : Nat) : ((⟨g, off, none⟩ : Addr).add k) = ⟨g, off + k, none⟩ := by
  unfold Addr.add
  split
  · rename_i h0; subst h0; rfl
  · rfl
theorem i64_wrap_in (n : Int) (h0 : 0 ≤ n) (h1 : n ≤ 9223372036854775807) : wrap64 n = n := by
  unfold wrap64; omega
theorem alloc_size (w : World) (o : Obj) : w.heap.size ≤ (w.alloc o).heap.size := by show w.heap.size ≤ (w.heap.push o).size; simp
theorem grown_block {W w' : World} (G : Grown W w') {b : Nat} (hb : b < W.heap.size) : w'.heap[b]? = W.heap[b]? := by
  obtain ⟨o, ho⟩ : ∃ o, W.heap[b]? = some o := ⟨_, Array.getElem?_eq_getElem hb⟩
  cases o with
  | cells c t fr => rw [ho]; exact grown_row G ho
  | map es c =>
    have k := G.1.2.2 b hb
    rw [ho] at k ⊢
    split at k
    case h_1 h1 _ => simp at h1
    case h_2 x e1 c1 e2 c2 h1 h2 =>
      simp only [Option.some.injEq, Obj.map.injEq] at h1
      obtain ⟨rfl, rfl⟩ := h1
      rcases k with k | ⟨rfl, rfl⟩
      · exact k.elim
      · exact h2
    case h_3 => exact k
  | _ =>
    have k := G.1.2.2 b hb
    rw [ho] at k ⊢
    split at k
    case h_1 h1 _ => simp at h1
    case h_2 h1 _ => simp at h1
    case h_3 => exact k
/-- What was there is as it was; of the tape nothing is said. -/
def Gw (W W' : World) : Prop := Below W.heap.size W { W' with tape := W.tape }
theorem Gw.refl (W : World) : Gw W W := Below.refl _ _
theorem Gw.below {W W' : World} (h : Gw W W') : Below W.heap.size W { W' with tape := W.tape } := h
theorem Gw.os {W W' : World} (h : Gw W W') : W'.os = W.os := h.below.os
theorem Gw.output {W W' : World} (h : Gw W W') : W'.output = W.output := h.below.output
theorem Gw.size {W W' : World} (h : Gw W W') : W.heap.size ≤ W'.heap.size := h.below.size
theorem Gw.block {W W' : World} (h : Gw W W') (k : Nat) (hk : k < W.heap.size) : W'.heap[k]? = W.heap[k]? := h.below.block k hk
theorem Grown.gw {W W' : World} (h : Grown W W') : Gw W W' := ⟨h.1.1, rfl, h.1.2.1, h.2.2, fun _ hk => grown_block h hk⟩
theorem Gw.trans {a b c : World} (h : Gw a b) (k : Gw b c) : Gw a c :=
  ⟨k.os.trans h.os, rfl, k.output.trans h.output, Nat.le_trans h.size k.size, fun i hi => (k.block i (Nat.lt_of_lt_of_le hi h.size)).trans (h.block i hi)⟩
theorem Gw.drew {a w : World} (h : Gw a w) : Gw a w.drew := ⟨h.os, rfl, h.output, h.size, h.block⟩
theorem Gw.alloc (w : World) (o : Obj) : Gw w (w.alloc o) :=
  ⟨rfl, rfl, rfl, by show w.heap.size ≤ (w.heap.push o).size; simp, fun k hk => Below.heap_alloc w o k hk⟩
theorem Gw.grown {a w w' : World} {row : Option Nat} (h : Gw a w) (hg : w.grownBy w' row) (hr : ∀ k, row = some k → a.heap.size ≤ k) : Gw a w' :=
  ⟨hg.os.trans h.os, rfl, hg.output.trans h.output, Nat.le_trans h.size hg.size, fun k hk => (hg.block k (Nat.lt_of_lt_of_le hk h.size) (fun e => by have := hr k e.symm; omega)).trans (h.block k hk)⟩
theorem lt_cell {w : World} {g i : Nat} {v : Value} (h : w.cell? ⟨g, i, none⟩ = some v) : g < w.heap.size := World.block_lt_of_cell? w _ h
theorem Gw.cell {W W' : World} (h : Gw W W') {g i : Nat} {v : Value} (hc : W.cell? ⟨g, i, none⟩ = some v) : W'.cell? ⟨g, i, none⟩ = some v := (World.cell?_of_block (h.block g (lt_cell hc))).trans hc
/-- A world in which S is so. -/
structure InP (S : World → Prop) where
  val : World
  ok : S val
theorem region_p {S : World → Prop} {id : Nat} {Q : Exit → Act → World → Prop} {a : Act} {w : World} {l : List Oper} (hm : Try.prog.follows .mixedOrders = true) (hB : Region.lexB .any l.toArray = true)
    (hs : S { w with drawn := w.drawn + 1 })
    (h : wpQuiet Try.prog l.toArray (fun w' => ∃ n : InP S, w' = n.val) (fun a' => ∀ w', (∃ n : InP S, w' = n.val) → Q .normal a' w') l a) : (Code.region id l.toArray true).wp Try.prog Q a w :=
  wp_region_quiet (C := fun w' => ∃ n : InP S, w' = n.val) hm hB ⟨⟨_, hs⟩, rfl⟩ (by simpa using h)
theorem post_kept {H : Type} {enc : TypeId × Value → H} {P : Program} {f : Func} {s : ChangeSpec} {apart fresh handsOn again : Bool} {W W' : World} {args : Array Value} {v : Value} {ds gs : List (DataW H)} {before pa pv : List MemPlace}
    (hW : DataW.Whole enc P f.params.toList s.vars apart W args.toList ds gs before) (hb : Gw W W')
    (hres : ∀ (b : Nat) (sp : Nat → Bool) (hd : Bool), DataW.TrodAll enc P W' b sp hd f.resultTypes.toList (v.resultList f.resultTypes.size) (s.fn H (ds ++ gs)).results [])
    (hargs : ∀ sp : Nat → Bool, (∀ p ∈ before, sp p.block = true) → DataW.TrodAll enc P W' 0 sp true f.params.toList args.toList (s.fn H (ds ++ gs)).args pa)
    (hvars : ∀ sp : Nat → Bool, (∀ p ∈ before, sp p.block = true) → DataW.TrodVars enc P W' sp s.vars (s.fn H (ds ++ gs)).vars pv) (hps : before = pa ++ pv)
    (hok : ∀ (j : Nat) (t : TypeId) (r : Value), f.resultTypes[j]? = some t → (v.resultList f.resultTypes.size)[j]? = some r → Value.okWide P W' .any 0 t r) : s.post enc P f apart fresh handsOn again W args v W' := by
  have lt : ∀ p ∈ before, p.block < W.heap.size := fun p hp => hW.lt p hp
  subst hps
  have Rall := hargs (fun _ => true) (fun _ _ => rfl)
  have Vall := hvars (fun _ => true) (fun _ _ => rfl)
  have Rold := hargs (fun b => decide (b < W.heap.size)) (fun p hp => decide_eq_true (lt p hp))
  have Vold := hvars (fun b => decide (b < W.heap.size)) (fun p hp => decide_eq_true (lt p hp))
  have places := hW
  obtain ⟨_, _, _, _, _, cold, single⟩ := places
  have fr : W.keptBut W' (· ∈ pa ++ pv) := Below.frame hb.below _
  have fz : ∀ a : Addr, a.block < W.heap.size → W'.frozen? a = W.frozen? a := fun a ha => Below.frozen hb.below ha
  exact ⟨ds, gs, pa ++ pv, [], pa, pv, hW, hres _ _ _, Rold, Vold, World.keptBut_mono (fun p hp => ⟨hp, .inr (List.mem_append.1 hp)⟩) fr, fun _ =>
    ⟨hok, _, _, ([] ++ pa) ++ pv, ⟨[] ++ pa, pv, trodAll_append Rall (hres _ _ _), Vall, rfl, fun b o hp => (fz _ (lt _ hp)).trans (cold b o hp), single⟩, fun p hp _ => hp⟩⟩
theorem set_other {w : World} {p : Addr} {u : Value} {k : Nat} (h : k ≠ p.block) : (w.setCell p u).heap[k]? = w.heap[k]? := Below.heap_setCell w p u k h
/-- A block's cells. -/
def Has (w : World) (g : Nat) (t : TypeId) (cs : Array Value) : Prop := w.heap[g]? = some (.cells cs t (0, 0))
section
variable {w w' : World} {g : Nat} {t : TypeId} {cs : Array Value}
theorem lt_of_heap {o : Obj} (h : w.heap[g]? = some o) : g < w.heap.size := (Array.getElem?_eq_some_iff.1 h).1
theorem Has.lt (h : Has w g t cs) : g < w.heap.size := lt_of_heap h
theorem Has.cell (h : Has w g t cs) (i : Nat) : w.cell? ⟨g, i, none⟩ = cs[i]? := by unfold World.cell?; rw [show w.heap[g]? = _ from h]; rfl
theorem Has.free (h : Has w g t cs) (i : Nat) : w.frozen? ⟨g, i, none⟩ = false := by unfold World.frozen?; rw [show w.heap[g]? = _ from h]; simp
theorem Has.new (w : World) (t : TypeId) (cs : Array Value) : Has (w.alloc (.cells cs t)) w.heap.size t cs := heap_alloc_new w _
theorem Has.same (h : Has w g t cs) (e : w'.heap[g]? = w.heap[g]?) : Has w' g t cs := Eq.trans e h
theorem Has.put (h : Has w g t cs) (i : Nat) (u : Value) : Has (w.setCell ⟨g, i, none⟩ u) g t (cs.setIfInBounds i u) := heap_setCell_same w g i cs t u h
theorem Has.on (h : Has w g t cs) (G : Gw w w') : Has w' g t cs := h.same (G.block g h.lt)
end
theorem size_alloc (w : World) (o : Obj) : (w.alloc o).heap.size = w.heap.size + 1 := by show (w.heap.push o).size = _; simp
/-- All is as it was but block g; new blocks may be there. -/
structure But (g : Nat) (W W' : World) : Prop where
  os : W'.os = W.os
  output : W'.output = W.output
  size : W.heap.size ≤ W'.heap.size
  block : ∀ k, k < W.heap.size → k ≠ g → W'.heap[k]? = W.heap[k]?
theorem But.refl (g : Nat) (W : World) : But g W W := ⟨rfl, rfl, Nat.le_refl _, fun _ _ _ => rfl⟩
theorem But.trans {g : Nat} {a b c : World} (h : But g a b) (k : But g b c) : But g a c :=
  ⟨k.os.trans h.os, k.output.trans h.output, Nat.le_trans h.size k.size, fun i hi hg => (k.block i (Nat.lt_of_lt_of_le hi h.size) hg).trans (h.block i hi hg)⟩
theorem But.set (g : Nat) (W : World) (i : Nat) (u : Value) : But g W (W.setCell ⟨g, i, none⟩ u) :=
  ⟨rfl, rfl, by simp, fun k _ hk => set_other (p := ⟨g, i, none⟩) hk⟩
theorem But.gw {g : Nat} {w0 W W' : World} (h : But g W W') (G : Gw w0 W) (hg : w0.heap.size ≤ g) : Gw w0 W' :=
  ⟨h.os.trans G.os, rfl, h.output.trans G.output, Nat.le_trans G.size h.size, fun k hk => (h.block k (Nat.lt_of_lt_of_le hk G.size) (by omega)).trans (G.block k hk)⟩
theorem Gw.but {g : Nat} {W W' : World} (h : Gw W W') : But g W W' := ⟨h.os, h.output, h.size, fun k hk _ => h.block k hk⟩
theorem But.has {g k : Nat} {W W' : World} {t : TypeId} {cs : Array Value} (h : But g W W') (hk : k ≠ g) (hh : Has W k t cs) : Has W' k t cs := hh.same (h.block k hh.lt hk)
/-- A row of the call's own, kept. -/
theorem own_keep {w w' : World} {base : Nat} {e : TypeId} {size n : Nat} {v : Value} {xs : List Value} (h : w.ownsRow base e size v n xs) (k : ∀ b, base ≤ b → b < w.heap.size → w'.heap[b]? = w.heap[b]?) : w'.ownsRow base e size v n xs := by
  refine ⟨h.1, ?_⟩
  rcases h.2 with h0 | ⟨b, cap, cur, h0, h1, h2, h3⟩
  · exact .inl h0
  · exact .inr ⟨b, cap, cur, h0, h1, (k b h1 (lt_of_heap h2)).trans h2, h3⟩
theorem box1 {W : World} {pb : Nat} {t : TypeId} {a v : Value} (h : Has W pb t #[a, v]) : W.cell? ⟨pb, 1, none⟩ = some v ∧ W.frozen? ⟨pb, 1, none⟩ = false := ⟨h.cell 1, h.free 1⟩
theorem box0 {W : World} {pb : Nat} {t : TypeId} {a v : Value} (h : Has W pb t #[a, v]) : W.cell? ⟨pb, 0, none⟩ = some a ∧ W.frozen? ⟨pb, 0, none⟩ = false := ⟨h.cell 0, h.free 0⟩
theorem toG {S : World → Prop} (hS : ∀ a b, S a → Gw a b → S b) {f : FuncId} {args : Array Value} {v : Value} {n : InP S} (h : Calls Try.prog f args n.val fun e w' => e = .returned v ∧ Gw n.val w') :
    Calls Try.prog f args n.val fun e w'' => e = .returned v ∧ ∃ m : InP S, w'' = m.val :=
  h.mono fun _ w' ⟨he, G⟩ => ⟨he, ⟨w', hS _ _ n.ok G⟩, rfl⟩
theorem wrap_in {a : Int} (h0 : -9223372036854775808 ≤ a) (h1 : a ≤ 9223372036854775807) : IntKind.i64.wrap a = a := by
  simp only [IntKind.wrap, IntKind.bits, IntKind.signed]
  simp
  omega
theorem byte_at {s : ByteArray} {l : List UInt8} {k : Nat} {c : UInt8} (hl : l = s.data.toList) (hc : l[k]? = some c) (hk : k < s.size) : s[k] = c := by
  subst hl
  rw [Array.getElem?_toList] at hc
  exact (Array.getElem?_eq_some_iff.1 hc).2
theorem all_take {l : List UInt8} {k : Nat} {c : UInt8} {p : UInt8 → Bool} (h : l[k]? = some c) : (l.take (k + 1)).all p = ((l.take k).all p && p c) := by
  obtain ⟨hi, he⟩ := List.getElem?_eq_some_iff.1 h
  rw [List.take_succ_eq_append_getElem hi, he]
  simp
end Go.Proofs.Ytckoapfmfpmdgaa

namespace Go.Proofs.Ytckoapfmfpmdgaa
set_option linter.unusedVariables false

def chOk (c : UInt8) : Bool := (decide (97 ≤ c.toNat) && decide (c.toNat ≤ 122)) || (decide (48 ≤ c.toNat) && decide (c.toNat ≤ 57)) || decide (c.toNat = 46) || decide (c.toNat = 95)
def addC (ps : List (List UInt8)) (c : UInt8) : List (List UInt8) := if c.toNat = 47 then ps ++ [[]] else ps.dropLast ++ [ps.getLastD [] ++ [c]]
/-- A text's parts, between its strokes. -/
def parts (l : List UInt8) : List (List UInt8) := l.foldl addC [[]]
theorem parts_snoc (l : List UInt8) (c : UInt8) : parts (l ++ [c]) = addC (parts l) c := by unfold parts; rw [List.foldl_append]; rfl
theorem addC_pos (ps : List (List UInt8)) (c : UInt8) : 0 < (addC ps c).length := by unfold addC; split <;> simp
theorem parts_pos (l : List UInt8) : 0 < (parts l).length := by
  unfold parts
  have : ∀ (l : List UInt8) (ps : List (List UInt8)), 0 < ps.length → 0 < (l.foldl addC ps).length := by
    intro l
    induction l with
    | nil => intro ps h; exact h
    | cons c l ih => intro ps _; exact ih _ (addC_pos ps c)
  exact this l _ (by simp)
def partOk (p : List UInt8) : Bool := p != [] && p != [46] && p != [46, 46]
/-- May a text be a name? -/
def nameB (l : List UInt8) : Bool := decide (1 ≤ l.length) && decide (l.length ≤ 8) && l.all (fun c => decide (c.toNat = 47) || chOk c) && (parts l).all partOk && decide ((parts l).length ≤ 2)
theorem addC_len (ps : List (List UInt8)) (c : UInt8) (hc : ¬ c.toNat = 47) (h0 : 0 < ps.length) : (addC ps c).length = ps.length := by
  unfold addC
  rw [if_neg hc, List.length_append, List.length_dropLast]
  simp
  omega
/-- May all of a name, or what stands beside its stroke, be so? -/
def partB (l : List UInt8) : Bool := l.all chOk && partOk l
theorem fold_flat (ps : List (List UInt8)) (q : List UInt8) : ∀ (l : List UInt8), (∀ c ∈ l, c.toNat ≠ 47) → l.foldl addC (ps ++ [q]) = ps ++ [q ++ l]
  | [], _ => by simp
  | c :: l, h => by
    have h1 : addC (ps ++ [q]) c = ps ++ [q ++ [c]] := by
      unfold addC
      rw [if_neg (h c List.mem_cons_self)]
      simp
    rw [List.foldl_cons, h1, fold_flat ps (q ++ [c]) l (fun d hd => h d (List.mem_cons_of_mem _ hd))]
    simp
theorem fold_len : ∀ (l : List UInt8) (ps : List (List UInt8)), 0 < ps.length → ps.length ≤ (l.foldl addC ps).length
  | [], ps, _ => Nat.le_refl _
  | c :: l, ps, h => by
    rw [List.foldl_cons]
    refine Nat.le_trans ?_ (fold_len l _ (addC_pos ps c))
    by_cases hc : c.toNat = 47
    · unfold addC; rw [if_pos hc]; simp
    · rw [addC_len ps c hc h]; exact Nat.le_refl _
theorem fold_more : ∀ (l : List UInt8) (ps : List (List UInt8)), 0 < ps.length → (∃ c ∈ l, c.toNat = 47) → ps.length + 1 ≤ (l.foldl addC ps).length
  | [], ps, _, ⟨c, hc, _⟩ => by cases hc
  | c :: l, ps, h, ⟨d, hd, e⟩ => by
    rw [List.foldl_cons]
    by_cases hc : c.toNat = 47
    · have := fold_len l _ (addC_pos ps c)
      have e2 : (addC ps c).length = ps.length + 1 := by unfold addC; rw [if_pos hc]; simp
      omega
    · rcases List.mem_cons.1 hd with rfl | hd
      · exact absurd e hc
      · have := fold_more l _ (addC_pos ps c) ⟨d, hd, e⟩
        rw [addC_len ps c hc h] at this
        exact this
theorem chOk_47 {c : UInt8} (h : c.toNat = 47) : chOk c = false := by unfold chOk; rw [h]; rfl
theorem all_ch {l : List UInt8} (h : ∀ c ∈ l, c.toNat ≠ 47) : (l.all fun c => decide (c.toNat = 47) || chOk c) = l.all chOk := by
  induction l with
  | nil => rfl
  | cons c l ih =>
    rw [List.all_cons, List.all_cons, ih (fun d hd => h d (List.mem_cons_of_mem _ hd)), decide_eq_false (h c List.mem_cons_self), Bool.false_or]
theorem partB_stroke {l : List UInt8} (h : ∃ c ∈ l, c.toNat = 47) : partB l = false := by
  obtain ⟨c, hc, e⟩ := h
  have : l.all chOk = false := List.all_eq_false.2 ⟨c, hc, by rw [chOk_47 e]; decide⟩
  unfold partB
  rw [this]
  rfl
/-- No stroke: one part. -/
theorem name_one {l : List UInt8} (h : ∀ c ∈ l, c.toNat ≠ 47) : nameB l = (decide (l.length ≤ 8) && partB l) := by
  have hp : parts l = [l] := by
    have := fold_flat [] [] l h
    simpa [parts] using this
  unfold nameB partB
  rw [all_ch h, hp]
  cases l with
  | nil => rfl
  | cons c l => simp [Bool.and_assoc]
/-- A first stroke: what stands ahead of it and behind it. -/
theorem name_two {a b : List UInt8} {c : UInt8} (h : ∀ c ∈ a, c.toNat ≠ 47) (hc : c.toNat = 47) : nameB (a ++ c :: b) = (decide ((a ++ c :: b).length ≤ 8) && (partB a && partB b)) := by
  have e0 : parts (a ++ c :: b) = b.foldl addC ([a] ++ [[]]) := by
    have h1 := fold_flat [] [] a h
    simp only [List.nil_append] at h1
    unfold parts
    rw [List.foldl_append, h1, List.foldl_cons]
    congr 1
    unfold addC
    rw [if_pos hc]
  by_cases hb : ∃ d ∈ b, d.toNat = 47
  · have h2 := fold_more b ([a] ++ [[]]) (by simp) hb
    rw [partB_stroke hb, Bool.and_false, Bool.and_false]
    have h3 : decide ((parts (a ++ c :: b)).length ≤ 2) = false := decide_eq_false (by rw [e0]; have e2 : ([a] ++ [[]] : List (List UInt8)).length = 2 := rfl; rw [e2] at h2; omega)
    unfold nameB
    rw [h3, Bool.and_false]
  · have hb' : ∀ d ∈ b, d.toNat ≠ 47 := fun d hd e => hb ⟨d, hd, e⟩
    have h2 := fold_flat [a] [] b hb'
    rw [List.nil_append] at h2
    rw [h2] at e0
    have e1 : ((a ++ c :: b).all fun c => decide (c.toNat = 47) || chOk c) = (a.all chOk && b.all chOk) := by
      rw [List.all_append, List.all_cons, all_ch h, all_ch hb', decide_eq_true hc]
      simp
    unfold nameB
    rw [e0, e1, decide_eq_true (show 1 ≤ (a ++ c :: b).length by simp; omega)]
    unfold partB
    simp only [List.singleton_append, List.all_cons, List.all_nil, List.length_cons, List.length_nil, Bool.true_and, Bool.and_true]
    cases decide ((a ++ c :: b).length ≤ 8) <;> cases a.all chOk <;> cases b.all chOk <;> cases partOk a <;> cases partOk b <;> rfl
end Go.Proofs.Ytckoapfmfpmdgaa

namespace Go.Proofs.Ytckoapfmfpmdgaa
open Go.ChangeShapes Go.WideShapes Go.ChangeAt Go.RowKit Go.Joins
set_option linter.unusedVariables false

/-- Is it a stroke? -/
def strk (c : UInt8) : Bool := decide (c.toNat = 47)
/-- What stands ahead of the stroke (empty: there is none), and the last part; of what is no name both are empty. -/
def spl (l : List UInt8) : List UInt8 × List UInt8 := if nameB l = true then (if l.any strk = true then (l.takeWhile (fun c => !strk c), (l.dropWhile (fun c => !strk c)).tail) else ([], l)) else ([], [])
def deepB (l : List UInt8) : Int := if nameB l = true then (if l.any strk = true then 2 else 1) else 0
/-- A text is parted at its first stroke. -/
inductive Strk (l : List UInt8) : Prop where
  | no : (∀ c ∈ l, c.toNat ≠ 47) → Strk l
  | yes {a b : List UInt8} {c : UInt8} : l = a ++ c :: b → (∀ d ∈ a, d.toNat ≠ 47) → c.toNat = 47 → Strk l
theorem strk_of : ∀ l : List UInt8, Strk l
  | [] => .no fun c hc => by cases hc
  | c :: l => by
    by_cases h : c.toNat = 47
    · exact .yes (a := []) (b := l) (c := c) rfl (fun d hd => by cases hd) h
    · cases strk_of l with
      | no h1 =>
        refine .no fun d hd => ?_
        rcases List.mem_cons.1 hd with rfl | hd
        · exact h
        · exact h1 d hd
      | @yes a b d h1 h2 h3 =>
        refine .yes (a := c :: a) (b := b) (c := d) (by rw [h1]; rfl) (fun e he => ?_) h3
        rcases List.mem_cons.1 he with rfl | he
        · exact h
        · exact h2 e he
theorem any_no {l : List UInt8} (h : ∀ c ∈ l, c.toNat ≠ 47) : l.any strk = false := List.any_eq_false.2 fun c hc => by unfold strk; simp [h c hc]
theorem take_no {a : List UInt8} {c : UInt8} {b : List UInt8} (h : ∀ d ∈ a, d.toNat ≠ 47) (hc : c.toNat = 47) : (a ++ c :: b).takeWhile (fun c => !strk c) = a ∧ (a ++ c :: b).dropWhile (fun c => !strk c) = c :: b := by
  induction a with
  | nil => simp [strk, hc]
  | cons d a ih =>
    have hd : strk d = false := decide_eq_false (h d List.mem_cons_self)
    obtain ⟨h1, h2⟩ := ih fun e he => h e (List.mem_cons_of_mem _ he)
    simp [hd, h1, h2]
theorem spl_no {l : List UInt8} (h : nameB l = false) : spl l = ([], []) := by unfold spl; rw [if_neg (by rw [h]; decide)]
theorem spl_one {l : List UInt8} (h : nameB l = true) (h1 : ∀ c ∈ l, c.toNat ≠ 47) : spl l = ([], l) := by unfold spl; rw [if_pos h, if_neg (by rw [any_no h1]; decide)]
theorem spl_two {a b : List UInt8} {c : UInt8} (h : nameB (a ++ c :: b) = true) (h1 : ∀ d ∈ a, d.toNat ≠ 47) (hc : c.toNat = 47) : spl (a ++ c :: b) = (a, b) := by
  have ha : (a ++ c :: b).any strk = true := List.any_eq_true.2 ⟨c, by simp, decide_eq_true hc⟩
  obtain ⟨h2, h3⟩ := take_no (b := b) h1 hc
  unfold spl
  rw [if_pos h, if_pos ha, h2, h3]
  rfl
theorem part_ne {p : List UInt8} (h : partB p = true) : p ≠ [] := fun e => by rw [e] at h; cases h
theorem part_flat {p : List UInt8} (h : partB p = true) : ∀ c ∈ p, c.toNat ≠ 47 := fun c hc e => by rw [partB_stroke ⟨c, hc, e⟩] at h; cases h
/-- What a name is: one part, or two. -/
theorem name_cases {l : List UInt8} (h : nameB l = true) : (partB l = true ∧ l.length ≤ 8 ∧ spl l = ([], l) ∧ deepB l = 1) ∨ ∃ a b c, l = a ++ c :: b ∧ c.toNat = 47 ∧ partB a = true ∧ partB b = true ∧ l.length ≤ 8 ∧ spl l = (a, b) ∧ deepB l = 2 := by
  cases strk_of l with
  | no h1 =>
    have h2 := h
    rw [name_one h1, Bool.and_eq_true, decide_eq_true_eq] at h2
    exact .inl ⟨h2.2, h2.1, spl_one h h1, by unfold deepB; rw [if_pos h, if_neg (by rw [any_no h1]; decide)]⟩
  | @yes a b c h1 h2 h3 =>
    subst h1
    have h4 := h
    rw [name_two h2 h3, Bool.and_eq_true, Bool.and_eq_true, decide_eq_true_eq] at h4
    exact .inr ⟨a, b, c, rfl, h3, h4.2.1, h4.2.2, h4.1, spl_two h h2 h3, by unfold deepB; rw [if_pos h, if_pos (List.any_eq_true.2 ⟨c, by simp, decide_eq_true h3⟩)]⟩
/-- Joined again the parts are the name. -/
theorem back_of {l : List UInt8} (h : nameB l = true) : (if (spl l).1 = [] then (spl l).2 else (spl l).1 ++ [47] ++ (spl l).2) = l := by
  rcases name_cases h with ⟨_, _, h2, _⟩ | ⟨a, b, c, h1, h2, h3, _, _, h4, _⟩
  · rw [h2]; rfl
  · have hc : c = 47 := UInt8.toNat_inj.1 (by rw [h2]; rfl)
    rw [h4, if_neg (part_ne h3), h1, hc]
    simp
theorem spl_inj {a b : List UInt8} (ha : nameB a = true) (hb : nameB b = true) (h : spl a = spl b) : a = b := by rw [← back_of ha, ← back_of hb, h]
/-! ### The order -/
/-! ### Joins -/
end Go.Proofs.Ytckoapfmfpmdgaa

namespace Go.Proofs.Ytckoapfmfpmdgaa
set_option linter.unusedVariables false

structure Itm where
  p : List UInt8
  d : Bool
  n : Int
deriving DecidableEq
structure St where
  l : List Itm
  nx : Int
abbrev is (p : List UInt8) : Itm → Bool := fun i => i.p == p
def look (l : List Itm) (p : List UInt8) : Option Itm := l.find? (is p)
/-- What is wrong ahead of the stroke. -/
def abv (l : List Itm) (p : List UInt8) : Int := if (spl p).1 = [] then 0 else match look l (spl p).1 with | none => 65282 | some i => if i.d = true then 0 else 65300
def findT (l : List Itm) (p : List UInt8) : Int × Bool × Int :=
  if nameB p = true then (if abv l p = 0 then (match look l p with | none => (-1, false, 65282) | some i => (i.n, i.d, 0)) else (-1, false, abv l p)) else (-1, false, 65282)
def manyL (l : List Itm) (p : List UInt8) : Nat := (l.filter (fun i => (spl i.p).1 == p)).length
def makeT (s : St) (p : List UInt8) (dir : Bool) : (Int × Int) × St :=
  if nameB p = true then (if abv s.l p = 0 then (match look s.l p with
    | some _ => ((-1, 65297), s)
    | none => if dir = true ∧ (spl p).1 ≠ [] then ((-1, 65302), s) else if 8 ≤ s.l.length then ((-1, 65308), s) else ((s.nx, 0), ⟨s.l ++ [⟨p, dir, s.nx⟩], s.nx + 1⟩))
    else ((-1, abv s.l p), s)) else ((-1, 65282), s)
def dropT (s : St) (p : List UInt8) (dir : Bool) : Int × St :=
  if (findT s.l p).2.2 = 0 then
    (if dir = false ∧ (findT s.l p).2.1 = true then (65301, s)
     else if dir = true ∧ (findT s.l p).2.1 = false then (65300, s)
     else if dir = true ∧ 0 < manyL s.l p then (65319, s)
     else (0, ⟨s.l.eraseP (is p), s.nx⟩))
  else ((findT s.l p).2.2, s)
/-- The first that is at a is at b from now on. -/
def ren (a b : List UInt8) : List Itm → List Itm
  | [] => []
  | i :: l => if i.p = a then ⟨b, i.d, i.n⟩ :: l else i :: ren a b l
def moveT (s : St) (a b : List UInt8) : (Int × Int) × St :=
  if (findT s.l a).2.2 = 0 then
    (if (findT s.l a).2.1 = true then ((-1, 65301), s)
     else if nameB b = true then
       (if abv s.l b = 0 then
         (if a = b then ((-1, 0), s)
          else match look s.l b with
            | none => ((-1, 0), ⟨ren a b s.l, s.nx⟩)
            | some i => if i.d = true then ((-1, 65301), s) else ((i.n, 0), ⟨ren a b (s.l.eraseP (is b)), s.nx⟩))
        else ((-1, abv s.l b), s))
     else ((-1, 65282), s))
  else ((-1, (findT s.l a).2.2), s)
def manyT (l : List Itm) (p : List UInt8) : Int :=
  if (findT l p).2.2 = 0 then (if (findT l p).2.1 = true then (manyL l p : Int) else 65300) else (findT l p).2.2
/-- New: entries one behind the other. -/
def putT (l : List Itm) (p : List UInt8) (d : Bool) (k : Nat) : Option (List Itm) :=
  if nameB p = true then (match look l p with
    | some _ => none
    | none => if (spl p).1 = [] then some (l ++ [⟨p, d, k⟩]) else if d = true then none else match look l (spl p).1 with
      | none => none
      | some i => if i.d = true then some (l ++ [⟨p, d, k⟩]) else none)
  else none
def fromT : List (List UInt8 × Bool) → Nat → List Itm → Option (List Itm)
  | [], _, l => some l
  | e :: es, k, l => match putT l e.1 e.2 k with
    | none => none
    | some l' => fromT es (k + 1) l'
def newT (es : List (List UInt8 × Bool)) : Option St := if 8 < es.length then none else (fromT es 0 []).map (fun l => ⟨l, es.length⟩)

/-- At which place. -/
def ixT (l : List Itm) (p : List UInt8) : Int := match l.findIdx? (is p) with | none => -1 | some k => k
theorem look_ix (l : List Itm) (p : List UInt8) : look l p = match l.findIdx? (is p) with | none => none | some k => l[k]? := by
  unfold look
  induction l with
  | nil => rfl
  | cons i l ih =>
    by_cases h : is p i = true
    · rw [List.find?_cons_of_pos h, List.findIdx?_cons, if_pos h]; rfl
    · rw [List.find?_cons_of_neg h, List.findIdx?_cons, if_neg h, ih]
      cases l.findIdx? (is p) with
      | none => rfl
      | some k => rfl
theorem ix_none {l : List Itm} {p : List UInt8} (h : look l p = none) : ixT l p = -1 := by
  unfold ixT
  rw [look_ix] at h
  cases hk : l.findIdx? (is p) with
  | none => rfl
  | some k =>
    rw [hk] at h
    have := (List.findIdx?_eq_some_iff_findIdx_eq.1 hk).1
    have h' : l[k]? = none := h
    rw [List.getElem?_eq_getElem this] at h'
    cases h'
theorem ix_some {l : List Itm} {p : List UInt8} {i : Itm} (h : look l p = some i) : ∃ k : Nat, ixT l p = k ∧ l[k]? = some i ∧ l.eraseP (is p) = l.take k ++ l.drop (k + 1) ∧ (∀ b, ren p b l = l.take k ++ ⟨b, i.d, i.n⟩ :: l.drop (k + 1)) := by
  induction l with
  | nil => cases h
  | cons j l ih =>
    by_cases hj : is p j = true
    · have e : j = i := by unfold look at h; rw [List.find?_cons_of_pos hj] at h; cases h; rfl
      subst e
      refine ⟨0, ?_, rfl, ?_, fun b => ?_⟩
      · unfold ixT; rw [List.findIdx?_cons, if_pos hj]
      · rw [List.eraseP_cons_of_pos hj]; rfl
      · rw [ren, if_pos (eq_of_beq hj)]; rfl
    · have h' : look l p = some i := by unfold look at h ⊢; rw [List.find?_cons_of_neg hj] at h; exact h
      obtain ⟨k, h1, h2, h3, h4⟩ := ih h'
      refine ⟨k + 1, ?_, h2, ?_, fun b => ?_⟩
      · unfold ixT at h1 ⊢
        rw [List.findIdx?_cons, if_neg hj]
        cases hk : l.findIdx? (is p) with
        | none => rw [hk] at h1; simp at h1
        | some q => rw [hk] at h1; simp at h1 ⊢; omega
      · rw [List.eraseP_cons_of_neg hj, h3]; rfl
      · have hn : ¬ j.p = p := fun e => hj (by unfold is; rw [e]; simp)
        rw [show ren p b (j :: l) = j :: ren p b l by rw [ren, if_neg hn], h4]; rfl
theorem look_path {l : List Itm} {p : List UInt8} {i : Itm} (h : look l p = some i) : i.p = p := eq_of_beq (List.find?_some (p := is p) h)
end Go.Proofs.Ytckoapfmfpmdgaa
