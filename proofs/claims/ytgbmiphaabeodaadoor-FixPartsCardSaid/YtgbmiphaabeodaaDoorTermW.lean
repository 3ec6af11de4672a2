/-
  How an arena of terms lies in memory, and what keeps it as it lies: blocks that are known, worlds that differ only in some blocks. The contracts of package term speak in these words.
-/
import Derived.Test.YtgbmiphaabeodaaDoorWide
import Derived.Test.YtgbmiphaabeodaaDoorTermM
import Derived.Maps.OwnSet
import Derived.DeepKeys5
import Derived.Laws.OwnMore
import Derived.Laws.Rows
import Derived.Deep.Draws
import Derived.Deep.AppendLies
namespace Go.Proofs.YtgbmiphaabeodaaDoor
open Go.ChangeShapes Go.WideShapes Go.ChangeAt Go.RowKit
set_option linter.unusedVariables false

/-! ### Worlds that differ in some blocks -/
structure Kept (S : Nat → Prop) (w w' : World) : Prop where
  os : w'.os = w.os
  tape : w'.tape = w.tape
  output : w'.output = w.output
  size : w.heap.size ≤ w'.heap.size
  block : ∀ k, k < w.heap.size → ¬ S k → w'.heap[k]? = w.heap[k]?
def no : Nat → Prop := fun _ => False
section
variable {S S' : Nat → Prop} {w w' w'' : World}
theorem Kept.refl (S : Nat → Prop) (w : World) : Kept S w w := ⟨rfl, rfl, rfl, Nat.le_refl _, fun _ _ _ => rfl⟩
theorem Kept.trans (h : Kept S w w') (k : Kept S' w' w'') (hs : ∀ b, b < w.heap.size → S' b → S b) : Kept S w w'' :=
  ⟨k.os.trans h.os, k.tape.trans h.tape, k.output.trans h.output, Nat.le_trans h.size k.size, fun b hb hn =>
    (k.block b (Nat.lt_of_lt_of_le hb h.size) (fun hs' => hn (hs b hb hs'))).trans (h.block b hb hn)⟩
theorem Kept.mono (h : Kept S w w') (hs : ∀ b, b < w.heap.size → S b → S' b) : Kept S' w w' :=
  ⟨h.os, h.tape, h.output, h.size, fun b hb hn => h.block b hb (fun k => hn (hs b hb k))⟩
theorem Kept.of_below (h : Below w.heap.size w w') : Kept S w w' := ⟨h.os, h.tape, h.output, h.size, fun k hk _ => h.block k hk⟩
theorem Kept.below {B : Nat} (h : Kept S w w') (hB : B ≤ w.heap.size) (hs : ∀ k, k < B → ¬ S k) : Below B w w' :=
  ⟨h.os, h.tape, h.output, h.size, fun k hk => h.block k (Nat.lt_of_lt_of_le hk hB) (hs k hk)⟩
theorem Kept.of_grown {row : Option Nat} (h : w.grownBy w' row) (hr : ∀ k, row = some k → S k) : Kept S w w' :=
  ⟨h.os, h.tape, h.output, h.size, fun k hk hn => h.block k hk (fun e => hn (hr k e.symm))⟩
theorem Kept.drew (h : Kept S w w') : Kept S w w'.drew := ⟨h.os, h.tape, h.output, h.size, h.block⟩
theorem Kept.drewN (h : Kept S w w') (n : Nat) : Kept S w (w'.drewN n) := ⟨h.os, h.tape, h.output, h.size, h.block⟩
theorem Kept.alloc (h : Kept S w w') (o : Obj) : Kept S w (w'.alloc o) :=
  h.trans (S' := no) (Kept.of_below ((Below.refl _ _).alloc (Nat.le_refl _) _)) (fun _ _ k => k.elim)
theorem Kept.setCell (h : Kept S w w') {p : Addr} (hp : p.block < w.heap.size → S p.block) (u : Value) : Kept S w (w'.setCell p u) :=
  ⟨h.os, h.tape, h.output, by simpa [World.setCell] using h.size, fun k hk hn => by
    rw [Below.heap_setCell w' p u k (fun e => hn (e ▸ hp (e ▸ hk)))]; exact h.block k hk hn⟩
end

/-! ### A block that is known -/
def Has (w : World) (g : Nat) (t : TypeId) (cs : Array Value) : Prop := w.heap[g]? = some (.cells cs t (0, 0))
section
variable {w w' : World} {g : Nat} {t : TypeId} {cs : Array Value}
theorem lt_of_heap {o : Obj} (h : w.heap[g]? = some o) : g < w.heap.size := (Array.getElem?_eq_some_iff.1 h).1
theorem Has.lt (h : Has w g t cs) : g < w.heap.size := lt_of_heap h
theorem Has.cell (h : Has w g t cs) (i : Nat) : w.cell? ⟨g, i, none⟩ = cs[i]? := by unfold World.cell?; rw [show w.heap[g]? = _ from h]; rfl
theorem Has.free (h : Has w g t cs) (i : Nat) : w.frozen? ⟨g, i, none⟩ = false := by unfold World.frozen?; rw [show w.heap[g]? = _ from h]; simp
theorem Has.new (w : World) (t : TypeId) (cs : Array Value) : Has (w.alloc (.cells cs t)) w.heap.size t cs := heap_alloc_new w _
theorem Has.same (h : Has w g t cs) (e : w'.heap[g]? = w.heap[g]?) : Has w' g t cs := Eq.trans e h
theorem Has.kept {S : Nat → Prop} (h : Has w g t cs) (k : Kept S w w') (hn : ¬ S g) : Has w' g t cs := h.same (k.block g h.lt hn)
theorem Has.put (h : Has w g t cs) (i : Nat) (u : Value) : Has (w.setCell ⟨g, i, none⟩ u) g t (cs.setIfInBounds i u) := by
  unfold Has at *
  simp only [World.setCell, Array.getElem?_modify, h, if_true]
  simp
theorem Has.unlike {g' : Nat} {t' : TypeId} {cs' : Array Value} (h : Has w g t cs) (h' : Has w g' t' cs') (hne : t ≠ t') : g ≠ g' := by
  intro e
  subst e
  have k := Eq.trans (Eq.symm h) h'
  simp only [Option.some.injEq, Obj.cells.injEq] at k
  exact hne k.2.1
end
theorem set_other {w : World} {p : Addr} {u : Value} {k : Nat} (h : k ≠ p.block) : (w.setCell p u).heap[k]? = w.heap[k]? := Below.heap_setCell w p u k h
theorem alloc_other {w : World} {o : Obj} {k : Nat} (h : k < w.heap.size) : (w.alloc o).heap[k]? = w.heap[k]? := Below.heap_alloc w o k h

/-! ### Rows -/
theorem row_same {w w' : World} {base : Nat} {e : TypeId} {size n : Nat} {v : Value} {xs : List Value} (h : w.ownsRow base e size v n xs) (k : ∀ g, v.ownBlock = some g → w'.heap[g]? = w.heap[g]?) : w'.ownsRow base e size v n xs := by
  refine ⟨h.1, ?_⟩
  rcases h.2 with h0 | ⟨g, cap, cur, rfl, hb, hh, h1⟩
  · exact .inl h0
  · exact .inr ⟨g, cap, cur, rfl, hb, (k g rfl).trans hh, h1⟩
theorem row_block {w : World} {base : Nat} {e : TypeId} {size n : Nat} {v : Value} {xs : List Value} (h : w.ownsRow base e size v n xs) {g : Nat} (hg : v.ownBlock = some g) : ∃ cur, Has w g e cur := by
  rcases h.2 with ⟨rfl, _⟩ | ⟨g', cap, cur, rfl, hb, hh, h1⟩
  · cases hg
  · have : g' = g := by simpa [Value.ownBlock] using hg
    exact ⟨cur, this ▸ hh⟩

/-! ### Nodes as values and as keys -/
def Nd.v (n : Nd) : List Value := [.int .i64 n.op, .int .i64 n.w, .int .u16 n.val, .int .i64 n.a, .int .i64 n.b, .int .i64 n.c]
def nodeCells (ns : List Nd) : List Value := ns.flatMap Nd.v
def idCells (ns : List Nd) : List Value := (List.range ns.length).map fun (i : Nat) => Value.int .u64 ((Iv ns ((i : Int) + 1) : Nat) : Int)
def Nd.kl (n : Nd) : Lit := .string (keyBytes [.int .i64 n.op, .int .i64 n.w, .int .u16 n.val, .int .i64 n.a, .int .i64 n.b, .int .i64 n.c])
/-- A node whose numbers are small. -/
structure Fits (n : Nd) : Prop where
  op : 0 ≤ n.op ∧ n.op ≤ 18
  w : 0 ≤ n.w ∧ n.w ≤ 16
  val : 0 ≤ n.val ∧ n.val ≤ 65535
  a : 0 ≤ n.a ∧ n.a ≤ 65536
  b : 0 ≤ n.b ∧ n.b ≤ 65536
  c : 0 ≤ n.c ∧ n.c ≤ 65536
theorem NW.fits {ns : List Nd} {n : Nd} (h : NW ns n) (hl : ns.length ≤ 65536) : Fits n := by
  have ha := h.pa; have hb := h.pb; have hc := h.pc
  unfold part at ha hb hc
  have := h.mw
  have := h.op0; have := h.op1
  refine ⟨by omega, ?_, ⟨h.v0, h.v1⟩, by omega, by omega, by omega⟩
  rcases h.mw with e | e | e <;> omega

theorem keyedNode : Maps.Keyed Tryd.prog 85 := Maps.Keyed.of_law (deep_law_gate (by kernel_rfl) (of_decide_eq_true (by kernel_rfl)) (of_decide_eq_true (by kernel_rfl)) (by kernel_rfl) (by kernel_rfl))
theorem ktype : Tryd.prog.keyType 85 = true := by kernel_rfl
theorem cellsNode : Tryd.prog.cellsOf 85 = 6 := by kernel_rfl
theorem cellsInt : Tryd.prog.cellsOf 3 = 1 := by kernel_rfl
theorem cellsU16 : Tryd.prog.cellsOf 24 = 1 := by kernel_rfl
theorem cellsT : Tryd.prog.cellsOf 33 = 1 := by kernel_rfl
theorem types_two : ∃ k, Tryd.prog.types.size + 1 = k + 2 := ⟨Tryd.prog.types.size - 1, by have : 1 ≤ Tryd.prog.types.size := of_decide_eq_true (by kernel_rfl); omega⟩
theorem wf_u16_of {x : Int} (h0 : 0 ≤ x) (h1 : x ≤ 65535) : (Lit.int .u16 x).wf = true := by
  have e : IntKind.u16.min = 0 ∧ IntKind.u16.max = 65535 := ⟨rfl, rfl⟩
  simp only [Lit.wf, e.1, e.2]; simp; omega
theorem key_of (n : Nd) (h : Fits n) : keyOf Tryd.prog 85 (.agg #[.int .i64 n.op, .int .i64 n.w, .int .u16 n.val, .int .i64 n.a, .int .i64 n.b, .int .i64 n.c]) = some n.kl := by
  obtain ⟨h1, h2, h3, h4, h5, h6⟩ := h
  have w1 : (Lit.int .i64 n.op).wf = true := WalkArith.wf_i64 (by omega)
  have w2 : (Lit.int .i64 n.w).wf = true := WalkArith.wf_i64 (by omega)
  have w3 : (Lit.int .u16 n.val).wf = true := wf_u16_of h3.1 h3.2
  have w4 : (Lit.int .i64 n.a).wf = true := WalkArith.wf_i64 (by omega)
  have w5 : (Lit.int .i64 n.b).wf = true := WalkArith.wf_i64 (by omega)
  have w6 : (Lit.int .i64 n.c).wf = true := WalkArith.wf_i64 (by omega)
  obtain ⟨k, hk⟩ := types_two
  unfold keyOf
  rw [Tryd.underlying85, hk]
  simp only [ktype, Value.formed, Tryd.underlying85, cellsNode, Value.cells]
  simp [Program.keyLits, Tryd.underlying85, Tryd.underlying3, Tryd.underlying24, Tryd.underlying33, cellsNode, cellsInt, cellsU16, cellsT, w1, w2, w3, w4, w5, w6, Nd.kl]
theorem kl_key (n : Nd) (h : Fits n) : WideAt.IsKeyLit n.kl := keyedNode.key (key_of n h)
theorem kl_inj {n m : Nd} (h : Fits n) (k : Fits m) (e : n.kl = m.kl) : n = m := by
  have := keyedNode.inj (key_of n h) (e ▸ key_of m k)
  cases n; cases m
  simp at this
  simp [this]
/-! ### An arena -/
open Maps in
/-- The map reads as: each node, and where it stands. -/
def MapIs (D : DataW Unit) (ns : List Nd) : Prop := ∀ n : Nd, Fits n →
  (∀ i : Nat, ns[i]? = some n → has D n.kl = true ∧ ∀ z, D.atKey n.kl z = .lit (.int .i64 ((i : Int) + 1))) ∧ ((∀ i : Nat, ns[i]? ≠ some n) → has D n.kl = false ∧ ∀ z, D.atKey n.kl z = z)
def FoundIs (w : World) (mv : Value) (ns : List Nd) (foot : Nat → Prop) : Prop :=
  (mv = .map none ∧ ns = []) ∨ ∃ b D, mv = .map (some b) ∧ foot b ∧ w.ownsMap Tryd.prog 85 (plainElem Tryd.prog 33) b ns.length D ∧ MapIs D ns
def arr (nv iv mv : Value) (vs : List Int) : Array Value := ⟨nv :: iv :: mv :: vs.map (Value.int .i64)⟩
/-- Which term is the Var of an id; 0: there is none. -/
def VarIs (ns : List Nd) (vs : List Int) : Prop := vs.length = 64 ∧ ∀ id : Nat, id < 64 →
  (vs[id]? = some 0 ∧ ∀ (i : Nat) (n : Nd), ns[i]? = some n → n.op = 2 → n.val ≠ (id : Int)) ∨
  (∃ (i : Nat) (n : Nd), ns[i]? = some n ∧ n.op = 2 ∧ n.val = (id : Int) ∧ vs[id]? = some ((i : Int) + 1) ∧ ∀ (j : Nat) (m : Nd), ns[j]? = some m → m.op = 2 → m.val = (id : Int) → j = i)
structure ArAt (w : World) (ab : Nat) (ns : List Nd) (foot : Nat → Prop) (nv iv mv : Value) (vs : List Int) : Prop where
  blk : Has w ab 61 (arr nv iv mv vs)
  fab : foot ab
  lt : ∀ k, foot k → k < w.heap.size
  nrow : w.ownsRow 0 85 6 nv ns.length (nodeCells ns)
  irow : w.ownsRow 0 69 1 iv ns.length (idCells ns)
  fn : ∀ g, nv.ownBlock = some g → foot g
  fi : ∀ g, iv.ownBlock = some g → foot g
  found : FoundIs w mv ns foot
  wf : WF ns
  once : ∀ (i j : Nat) (n : Nd), ns[i]? = some n → ns[j]? = some n → i = j
  sz : ns.length ≤ 65536
  nrm : NormA ns
def Ar (w : World) (ab : Nat) (ns : List Nd) (foot : Nat → Prop) : Prop := ∃ nv iv mv vs, VarIs ns vs ∧ ArAt w ab ns foot nv iv mv vs
theorem ownsMap_same {w w' : World} {k : TypeId} {R : Value → Option (DataW Unit × List MemPlace)} {b n : Nat} {D : DataW Unit} (h : w.ownsMap Tryd.prog k R b n D) (e : w'.heap[b]? = w.heap[b]?) : w'.ownsMap Tryd.prog k R b n D := by
  obtain ⟨es, clock, hb, h1⟩ := h
  exact ⟨es, clock, e.trans hb, h1⟩
theorem ArAt.keep {w w' : World} {ab : Nat} {ns : List Nd} {foot : Nat → Prop} {nv iv mv : Value} {vs : List Int} (h : ArAt w ab ns foot nv iv mv vs) (k : ∀ b, foot b → w'.heap[b]? = w.heap[b]?) (hs : w.heap.size ≤ w'.heap.size) : ArAt w' ab ns foot nv iv mv vs :=
  ⟨h.blk.same (k _ h.fab), h.fab, fun b hb => Nat.lt_of_lt_of_le (h.lt b hb) hs, row_same h.nrow fun g hg => k g (h.fn g hg), row_same h.irow fun g hg => k g (h.fi g hg), h.fn, h.fi, by
    rcases h.found with h0 | ⟨b, D, e, hf, ho, hm⟩
    · exact .inl h0
    · exact .inr ⟨b, D, e, hf, ownsMap_same ho (k b hf), hm⟩, h.wf, h.once, h.sz, h.nrm⟩
theorem Ar.keep {w w' : World} {ab : Nat} {ns : List Nd} {foot : Nat → Prop} (h : Ar w ab ns foot) (k : ∀ b, foot b → w'.heap[b]? = w.heap[b]?) (hs : w.heap.size ≤ w'.heap.size) : Ar w' ab ns foot := by
  obtain ⟨nv, iv, mv, vs, hvars, h⟩ := h
  exact ⟨nv, iv, mv, vs, hvars, h.keep k hs⟩
theorem Ar.lt {w : World} {ab : Nat} {ns : List Nd} {foot : Nat → Prop} (h : Ar w ab ns foot) : ∀ k, foot k → k < w.heap.size := by
  obtain ⟨nv, iv, mv, vs, hvars, h⟩ := h; exact h.lt
theorem Ar.wf {w : World} {ab : Nat} {ns : List Nd} {foot : Nat → Prop} (h : Ar w ab ns foot) : WF ns := by
  obtain ⟨nv, iv, mv, vs, hvars, h⟩ := h; exact h.wf
theorem Ar.nrm {w : World} {ab : Nat} {ns : List Nd} {foot : Nat → Prop} (h : Ar w ab ns foot) : NormA ns := by
  obtain ⟨nv, iv, mv, vs, hvars, h⟩ := h; exact h.nrm
theorem Ar.sz {w : World} {ab : Nat} {ns : List Nd} {foot : Nat → Prop} (h : Ar w ab ns foot) : ns.length ≤ 65536 := by
  obtain ⟨nv, iv, mv, vs, hvars, h⟩ := h; exact h.sz
theorem Ar.once {w : World} {ab : Nat} {ns : List Nd} {foot : Nat → Prop} (h : Ar w ab ns foot) : ∀ (i j : Nat) (n : Nd), ns[i]? = some n → ns[j]? = some n → i = j := by
  obtain ⟨nv, iv, mv, vs, hvars, h⟩ := h; exact h.once
theorem Ar.kept {w w' : World} {ab : Nat} {ns : List Nd} {foot S : Nat → Prop} (h : Ar w ab ns foot) (k : Kept S w w') (hn : ∀ b, foot b → ¬ S b) : Ar w' ab ns foot :=
  h.keep (fun b hb => k.block b (h.lt b hb) (hn b hb)) k.size
theorem Ar.below {w w' : World} {ab : Nat} {ns : List Nd} {foot : Nat → Prop} (h : Ar w ab ns foot) (k : Below w.heap.size w w') : Ar w' ab ns foot := h.keep (fun b hb => k.block b (h.lt b hb)) k.size
theorem Ar.alloc {w : World} {ab : Nat} {ns : List Nd} {foot : Nat → Prop} (h : Ar w ab ns foot) (o : Obj) : Ar (w.alloc o) ab ns foot := h.below ((Below.refl _ _).alloc (Nat.le_refl _) _)

/-- An arena of whose nodes more may stand there than of its ids. -/
def Half (w : World) (ab m : Nat) (ns : List Nd) : Prop := ∃ A cap iv mv vs, Has w ab 61 (arr (.slice A m cap) iv mv vs) ∧ w.ownsRow 0 69 1 iv ns.length (idCells ns) ∧ m ≤ 65536
theorem Half.keep {w w' : World} {ab m : Nat} {ns : List Nd} (h : Half w ab m ns) (k : Below w.heap.size w w') : Half w' ab m ns := by
  obtain ⟨A, cap, iv, mv, vs, h1, h2, h3⟩ := h
  exact ⟨A, cap, iv, mv, vs, h1.same (k.block _ h1.lt), row_same h2 (fun g hg => by obtain ⟨cur, hc⟩ := row_block h2 hg; exact k.block _ hc.lt), h3⟩
theorem Half.alike {w w' : World} {ab m : Nat} {ns : List Nd} (h : Half w ab m ns) (he : w'.heap = w.heap) : Half w' ab m ns := by
  obtain ⟨A, cap, iv, mv, vs, h1, h2, h3⟩ := h
  exact ⟨A, cap, iv, mv, vs, h1.same (by rw [he]), row_same h2 (fun g hg => by rw [he]), h3⟩
theorem ArAt.half {w : World} {ab : Nat} {ns : List Nd} {foot : Nat → Prop} {nv iv mv : Value} {vs : List Int} (h : ArAt w ab ns foot nv iv mv vs) : Half w ab ns.length ns := by
  rcases h.nrow.2 with ⟨rfl, h0⟩ | ⟨g, cap, cur, rfl, _⟩
  · exact ⟨none, 0, iv, mv, vs, by rw [h0]; exact h.blk, h.irow, h.sz⟩
  · exact ⟨_, cap, iv, mv, vs, h.blk, h.irow, h.sz⟩
theorem Ar.half {w : World} {ab : Nat} {ns : List Nd} {foot : Nat → Prop} (h : Ar w ab ns foot) : Half w ab ns.length ns := by
  obtain ⟨nv, iv, mv, vs, hvars, h⟩ := h; exact h.half
theorem nodeCells_length (ns : List Nd) : (nodeCells ns).length = ns.length * 6 := by
  induction ns with
  | nil => rfl
  | cons n r ih => rw [nodeCells, List.flatMap_cons, List.length_append]; unfold nodeCells at ih; rw [ih]; simp [Nd.v]; omega
theorem nodeCells_at : ∀ (ns : List Nd) (i j : Nat) (n : Nd), ns[i]? = some n → j < 6 → (nodeCells ns)[i * 6 + j]? = n.v[j]?
  | [], i, j, n, h, _ => by simp at h
  | m :: r, 0, j, n, h, hj => by
    have : m = n := by simpa using h
    subst this
    rw [nodeCells, List.flatMap_cons, List.getElem?_append_left (by simp [Nd.v]; omega)]
    simp
  | m :: r, i + 1, j, n, h, hj => by
    have h' : r[i]? = some n := by simpa using h
    rw [nodeCells, List.flatMap_cons, List.getElem?_append_right (by simp [Nd.v]; omega)]
    have := nodeCells_at r i j n h' hj
    unfold nodeCells at this
    rw [← this]
    congr 1
    simp [Nd.v]; omega
/-- The cells of the node i. -/
theorem row_node {w : World} {nv : Value} {ns : List Nd} (h : w.ownsRow 0 85 6 nv ns.length (nodeCells ns)) {i : Nat} {n : Nd} (hi : ns[i]? = some n) :
    ∃ (g cap : Nat), nv = .slice (some ⟨g, 0, none⟩) ns.length cap ∧ g < w.heap.size ∧ ns.length ≤ cap ∧ cap ≤ maxLen ∧ ∀ j, j < 6 → w.cell? ⟨g, i * 6 + j, none⟩ = n.v[j]? := by
  have hl : i < ns.length := (List.getElem?_eq_some_iff.1 hi).1
  rcases h.2 with ⟨_, h0⟩ | ⟨g, cap, cur, rfl, _, hh, hn, hc, hsz, ht⟩
  · omega
  · refine ⟨g, cap, rfl, lt_of_heap hh, hn, hc, fun j hj => ?_⟩
    have hx : Has w g 85 cur := hh
    rw [hx.cell, ← nodeCells_at ns i j n hi hj, ← ht, List.getElem?_take_of_lt (by omega)]
    simp
theorem row_id {w : World} {iv : Value} {ns : List Nd} (h : w.ownsRow 0 69 1 iv ns.length (idCells ns)) {i : Nat} (hi : i < ns.length) :
    ∃ (g cap : Nat), iv = .slice (some ⟨g, 0, none⟩) ns.length cap ∧ g < w.heap.size ∧ ns.length ≤ cap ∧ cap ≤ maxLen ∧ w.cell? ⟨g, i, none⟩ = some (.int .u64 ((Iv ns ((i : Int) + 1) : Nat) : Int)) := by
  rcases h.2 with ⟨_, h0⟩ | ⟨g, cap, cur, rfl, _, hh, hn, hc, hsz, ht⟩
  · omega
  · refine ⟨g, cap, rfl, lt_of_heap hh, hn, hc, ?_⟩
    have hx : Has w g 69 cur := hh
    have e : (idCells ns)[i]? = some (.int .u64 ((Iv ns ((i : Int) + 1) : Nat) : Int)) := by simp [idCells, hi]
    rw [hx.cell, ← e, ← ht, List.getElem?_take_of_lt (by omega)]
    simp
end Go.Proofs.YtgbmiphaabeodaaDoor
