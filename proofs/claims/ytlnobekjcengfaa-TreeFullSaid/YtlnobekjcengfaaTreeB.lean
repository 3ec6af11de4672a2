/-
  Entries that a law lays in a row of its own, beside one block; pairs of bytes, as they lie.
-/
import Derived.Test.YtlnobekjcengfaaTreeA
import Derived.Deep.RegionLaw
namespace Go.Proofs.Ytlnobekjcengfaa
open Go.ChangeShapes Go.WideShapes Go.ChangeAt Go.RowKit Go.Joins
set_option linter.unusedVariables false
set_option linter.unusedSimpArgs false

set_option maxRecDepth 100000 in
theorem info_entry : ∃ i0, Try.prog.info? 44 = some i0 ∧ i0.zero = some (.agg #[.string ⟨#[]⟩, .bool false, .int .i64 0]) ∧ i0.size = 3 ∧ i0.bytes = 32 := ⟨_, rfl, rfl, rfl, rfl⟩
abbrev Ent := List UInt8 × Bool
def eC (e : Ent) : List Value := [.string (bs e.1), .bool e.2, .int .i64 0]
def eCs (es : List Ent) : List Value := es.flatMap eC
theorem eC_len (e : Ent) : (eC e).length = 3 := rfl
theorem eCs_len (es : List Ent) : (eCs es).length = es.length * 3 := flat_len eC_len es
theorem eCs_snoc (es : List Ent) (e : Ent) : eCs (es ++ [e]) = eCs es ++ eC e := by unfold eCs; rw [List.flatMap_append]; simp
theorem own_ent {B : Nat} {w : World} {v : Value} {es : List Ent} (h : w.ownsRow B 44 3 v es.length (eCs es)) : EntAt w v es := by
  rcases h.2 with ⟨h0, h1⟩ | ⟨r, cap, cur, h0, h1, h2, h3, h4, h5, h6⟩
  · have := List.length_eq_zero_iff.1 h1
    subst this
    rw [h0]; exact EntAt.nil _
  · refine ⟨_, cap, h0, fun k e he => ⟨r, 0, rfl, ?_⟩⟩
    have hk := (List.getElem?_eq_some_iff.1 he).1
    have g : ∀ j v, (eCs es)[j]? = some v → w.cell? ⟨r, j, none⟩ = some v := fun j v hj => by
      rw [← h6, List.getElem?_take] at hj
      rw [cell_of_row w r j cur _ _ h2]
      split at hj
      · simpa using hj
      · cases hj
    rw [Nat.zero_add]
    exact ⟨g _ _ (flat_at eC_len es k 0 e he (by decide)), g _ _ (flat_at eC_len es k 1 e he (by decide)), 0, g _ _ (flat_at eC_len es k 2 e he (by decide))⟩
/-- A row of entries that is being laid, and a block ahead of it. -/
structure EI (W w : World) (g : Nat) (o : Obj) (v : Value) (es : List Ent) (k : Nat) : Prop where
  gw : Gw W w
  hg : w.heap[g]? = some o
  hW : W.heap.size ≤ g
  len : es.length = k
  row : w.ownsRow (g + 1) 44 3 v k (eCs es)
section
variable {W w : World} {g k : Nat} {o : Obj} {v : Value} {es : List Ent}
theorem EI.ge (h : EI W w g o v es k) : ∀ b, v.ownBlock = some b → g + 1 ≤ b := by
  intro b hb
  rcases h.row.2 with ⟨h0, _⟩ | ⟨r, cap, cur, h0, h1, _⟩
  · rw [h0] at hb; cases hb
  · rw [h0] at hb; cases hb; exact h1
theorem EI.on (h : EI W w g o v es k) {w' : World} (G : Gw w w') : EI W w' g o v es k :=
  ⟨h.gw.trans G, (G.block g (lt_of_heap h.hg)).trans h.hg, h.hW, h.len, own_keep h.row fun b _ hb => G.block b hb⟩
theorem EI.new {G : Gw W w} (o : Obj) : EI W (w.alloc o) w.heap.size o (.slice none 0 0) [] 0 :=
  ⟨G.trans (Gw.alloc _ _), heap_alloc_new w o, G.size, rfl, World.ownsRow_nil _ _ _ 3⟩
theorem EI.add (h : EI W w g o v es k) {w' : World} {v' : Value} {e : Ent} (own : w'.ownsRow (g + 1) 44 3 v' (k + 1) (eCs es ++ eC e)) (gr : w.grownBy w' v.ownBlock) : EI W w' g o v' (es ++ [e]) (k + 1) := by
  have hlt := lt_of_heap h.hg
  refine ⟨h.gw.grown gr (fun b hb => ?_), (gr.block g hlt (fun e => ?_)).trans h.hg, h.hW, by simp [h.len], by rw [eCs_snoc]; exact own⟩
  · have := h.ge b hb; have := h.hW; omega
  · have := h.ge g e.symm; omega
theorem EI.put {cs : Array Value} {t : TypeId} (h : EI W w g (.cells cs t (0, 0)) v es k) (i : Nat) (u : Value) : EI W (w.setCell ⟨g, i, none⟩ u) g (.cells (cs.setIfInBounds i u) t (0, 0)) v es k := by
  refine ⟨(But.set g w i u).gw h.gw h.hW, heap_setCell_same w g i cs t u h.hg, h.hW, h.len, own_keep h.row fun b hb _ => set_other (p := ⟨g, i, none⟩) (fun e => ?_)⟩
  have : b = g := e
  omega
/-- New at a row of entries: a tree beside the block. -/
theorem EI.tree {T : TP} (C : TreeC T) (h : EI W w g o v es k) (hs : ∀ e ∈ es, e.1.length ≤ 140737488351232) (hl : es.length ≤ 4611686018427387904) {s : St} (hn : newT es = some s) :
    Calls Try.prog 10 #[v] w fun e w' => ∃ a, e = .returned (.tuple #[.pointer (some a), .int .i64 0]) ∧ Mg T W w' (.pointer (some a)) s g o :=
  (C.new (own_ent (by rw [h.len]; exact h.row)) hs hl).mono fun e w' k => by
    unfold NewP at k
    rw [hn] at k
    obtain ⟨a, F, h1, h2, h3, h4⟩ := k
    have hlt := lt_of_heap h.hg
    exact ⟨a, h1, h.gw.trans h3, (h3.block g hlt).trans h.hg, h.hW, F, h2, fun k hk => Nat.le_trans h.gw.size (h4 k hk), fun hk => by have := h4 g hk; omega⟩
end
/-- A slice of pairs of bytes, as it lies. -/
def PairIn (W : World) (A : Option Addr) (l : List (Nat × Nat)) : Prop := ∀ (i : Nat) (z : Nat × Nat), l[i]? = some z → ∃ g off, A = some ⟨g, off, none⟩ ∧ g < W.heap.size ∧ W.cell? ⟨g, off + i * 2, none⟩ = some (.int .u8 (z.1 : Int)) ∧ W.cell? ⟨g, off + i * 2 + 1, none⟩ = some (.int .u8 (z.2 : Int)) ∧ z.1 ≤ 255 ∧ z.2 ≤ 255
theorem PairIn.on {W W' : World} {A : Option Addr} {l : List (Nat × Nat)} (h : PairIn W A l) (G : Gw W W') : PairIn W' A l := fun i z hz => by
  obtain ⟨g, off, h1, h2, h3, h4, h5⟩ := h i z hz
  exact ⟨g, off, h1, Nat.lt_of_lt_of_le h2 G.size, G.cell h3, G.cell h4, h5⟩
def iC8 (l : List Int) : Array Value := (l.map (Value.int .i64)).toArray
theorem iC8_at {l : List Int} {j : Nat} {b : Int} (h : l[j]? = some b) : (iC8 l)[j]? = some (.int .i64 b) := by unfold iC8; simp [h]
theorem iC8_set {l : List Int} {j : Nat} {b : Int} : (iC8 l).setIfInBounds j (.int .i64 b) = iC8 (l.set j b) := by unfold iC8; simp [List.map_set]
theorem iC8_new : madeCells #[.int .i64 0] 8 = iC8 (List.replicate 8 0) := by kernel_rfl
/-- The law's first five names. -/
def es5 (k : Nat) : List Ent := (List.range k).map (fun j => (lt1 j, false))
theorem es5_snoc (k : Nat) : es5 (k + 1) = es5 k ++ [(lt1 k, false)] := by unfold es5; rw [List.range_succ, List.map_append]; rfl
/-- Where each is, when so many have been set. -/
def av (k : Nat) : List Int := (List.range 8).map (fun j => if j < k then (if j < 5 then (j : Int) else -1) else 0)
theorem av_len (k : Nat) : (av k).length = 8 := by simp [av]
theorem av_set {k : Nat} (h : k < 8) : ((av k).set k (-1)).set k (if k < 5 then (k : Int) else -1) = av (k + 1) := by
  have : ∀ k : Fin 8, ((av k).set k (-1)).set k (if k.val < 5 then (k.val : Int) else -1) = av (k.val + 1) := by decide +kernel
  exact this ⟨k, h⟩
theorem av_set1 {k : Nat} (h : k < 8) (h5 : ¬ k < 5) : (av k).set k (-1) = av (k + 1) := by
  have : ∀ k : Fin 8, ¬ k.val < 5 → (av k).set k (-1) = av (k.val + 1) := by decide +kernel
  exact this ⟨k, h⟩ h5
def s5 : St := ⟨(List.range 5).map (fun j => ⟨lt1 j, false, j⟩), 5⟩
theorem new5 : newT (es5 5) = some s5 := by
  have : (newT (es5 5)).map (fun s => (s.l, s.nx)) = some (s5.l, s5.nx) := by decide +kernel
  cases h : newT (es5 5) with
  | none => rw [h] at this; cases this
  | some s => rw [h] at this; simp only [Option.map_some, Option.some.injEq, Prod.mk.injEq] at this; obtain ⟨l, n⟩ := s; obtain ⟨rfl, rfl⟩ := this; rfl
theorem mov5 : MovI s5 (av 8) 5 := by
  refine ⟨(new_ok1 new5).1, rfl, by decide, by decide +kernel, by decide +kernel, rfl, fun j hj => ?_⟩
  have : ∀ j : Fin 8, (av 8)[j.val]? = some (nAt s5.l (lt1 j.val)) := by decide +kernel
  exact this ⟨j, hj⟩
end Go.Proofs.Ytlnobekjcengfaa
