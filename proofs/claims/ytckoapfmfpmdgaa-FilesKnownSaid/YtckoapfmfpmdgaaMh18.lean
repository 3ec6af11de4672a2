/-
  Parts of the proof, joined: TreeY, TreeQ, TreeA, TreeB, TreeH, TreeI, TreeZ.
-/
import Derived.Test.YtckoapfmfpmdgaaMh06
import Derived.Test.YtckoapfmfpmdgaaMh02
import Derived.Deep.OwnRows
import Derived.Deep.DeepCutAuto
import Derived.Deep.RegionLaw

namespace Go.Proofs.Ytckoapfmfpmdgaa
open Go.ChangeShapes Go.WideShapes Go.ChangeAt Go.RowKit Go.Joins
set_option linter.unusedVariables false
set_option linter.unusedSimpArgs false

/-- A tree that the call has made, and a block that it has laid beside it. -/
structure Mg (T : TP) (W w : World) (v : Value) (s : St) (g : Nat) (o : Obj) : Prop where
  gw : Gw W w
  hg : w.heap[g]? = some o
  hW : W.heap.size ≤ g
  ex : ∃ F, T F w v s ∧ (∀ k, F k → W.heap.size ≤ k) ∧ ¬ F g
section
variable {T : TP} {W w : World} {v : Value} {s : St} {g : Nat} {o : Obj}
theorem Mg.lt (M : Mg T W w v s g o) : g < w.heap.size := lt_of_heap M.hg
theorem Mn.alloc (C : TreeC T) (M : Mn T W w v s) (o : Obj) : Mg T W (w.alloc o) v s w.heap.size o := by
  obtain ⟨F, h, hF⟩ := M.ex
  exact ⟨M.gw.trans (Gw.alloc _ _), heap_alloc_new w o, M.gw.size, F, C.same h (fun k hk => (Gw.alloc w o).block k (C.lt h hk)), hF, fun hk => Nat.lt_irrefl _ (C.lt h hk)⟩
theorem Mg.on (C : TreeC T) (M : Mg T W w v s g o) {w' : World} (G : Gw w w') : Mg T W w' v s g o := by
  obtain ⟨F, h, hF, hg⟩ := M.ex
  exact ⟨M.gw.trans G, (G.block g M.lt).trans M.hg, M.hW, F, C.same h (fun k hk => G.block k (C.lt h hk)), hF, hg⟩
theorem Mg.put (C : TreeC T) {cs : Array Value} {t : TypeId} (M : Mg T W w v s g (.cells cs t (0, 0))) (i : Nat) (u : Value) : Mg T W (w.setCell ⟨g, i, none⟩ u) v s g (.cells (cs.setIfInBounds i u) t (0, 0)) := by
  obtain ⟨F, h, hF, hg⟩ := M.ex
  exact ⟨(But.set g w i u).gw M.gw M.hW, heap_setCell_same w g i cs t u M.hg, M.hW, F, C.same h (fun k hk => set_other (p := ⟨g, i, none⟩) (fun e => hg (by rw [show k = g from e] at hk; exact hk))), hF, hg⟩
theorem Mg.next (M : Mg T W w v s g o) {F : Nat → Prop} (hF : ∀ k, F k → W.heap.size ≤ k) (hg : ¬ F g) {w' : World} {s' : St} (k : Kp T F v s' w w') : Mg T W w' v s' g o := by
  obtain ⟨F', h1, h2⟩ := k.ex
  have hs := M.lt
  refine ⟨⟨k.ch.os.trans M.gw.os, rfl, k.ch.output.trans M.gw.output, Nat.le_trans M.gw.size k.ch.size, fun j hj => (k.ch.block j (Nat.lt_of_lt_of_le hj M.gw.size) (fun hf => by have := hF j hf; omega)).trans (M.gw.block j hj)⟩, (k.ch.block g hs hg).trans M.hg, M.hW, F', h1, fun j hj => ?_, fun hj => ?_⟩
  · rcases h2 j hj with h | h
    · exact hF j h
    · exact Nat.le_trans M.gw.size h
  · rcases h2 g hj with h | h
    · exact hg h
    · omega
end
/-- A slice of bytes, as it lies. -/
def ByIn (W : World) (A : Option Addr) (l : List Nat) : Prop := ∀ (i z : Nat), l[i]? = some z → ∃ g off, A = some ⟨g, off, none⟩ ∧ g < W.heap.size ∧ W.cell? ⟨g, off + i, none⟩ = some (.int .u8 (z : Int)) ∧ z ≤ 255
theorem ByIn.on {W W' : World} {A : Option Addr} {l : List Nat} (h : ByIn W A l) (G : Gw W W') : ByIn W' A l := fun i z hz => by
  obtain ⟨g, off, h1, h2, h3, h4⟩ := h i z hz
  exact ⟨g, off, h1, Nat.lt_of_lt_of_le h2 G.size, G.cell h3, h4⟩
/-! ### Names of one letter -/
/-- The letter of that number. -/
def lt1 (k : Nat) : List UInt8 := [UInt8.ofNat (97 + k)]
theorem lt1_name {k : Nat} (h : k < 26) : nameB (lt1 k) = true ∧ spl (lt1 k) = ([], lt1 k) := by
  have : ∀ k : Fin 26, nameB (lt1 k) = true ∧ spl (lt1 k) = ([], lt1 k) := by decide +kernel
  exact this ⟨k, h⟩
theorem lt1_inj {j k : Nat} (hj : j < 26) (hk : k < 26) (h : lt1 j = lt1 k) : j = k := by
  have : ∀ j k : Fin 26, lt1 j = lt1 k → j = k := by decide +kernel
  exact Fin.mk.inj_iff.1 (this ⟨j, hj⟩ ⟨k, hk⟩ h)
theorem lt1_abv {k : Nat} (h : k < 26) (l : List Itm) : abv l (lt1 k) = 0 := by unfold abv; rw [(lt1_name h).2]; rfl
end Go.Proofs.Ytckoapfmfpmdgaa

namespace Go.Proofs.Ytckoapfmfpmdgaa
open Go.ChangeShapes Go.WideShapes Go.ChangeAt Go.RowKit Go.Joins
set_option linter.unusedVariables false
set_option linter.unusedSimpArgs false

/-- What is there, at the k-th of the law's numbers. -/
structure FullI (s : St) (th : List Bool) (k n : Nat) : Prop where
  ok : Ok s.l
  len : s.l.length = n
  n8 : n ≤ 8
  fil : ∀ i ∈ s.l, i.d = false
  tl : th.length = 26
  th : ∀ j, j < 26 → th[j]? = some (look s.l (lt1 j)).isSome
  nx0 : 0 ≤ s.nx
  nxk : s.nx ≤ k
theorem FullI.nil : FullI ⟨[], 0⟩ (List.replicate 26 false) 0 0 :=
  ⟨Ok.nil, rfl, by decide, fun i h => (by cases h), by simp, fun j hj => by rw [List.getElem?_replicate, if_pos hj]; rfl, by decide, by decide⟩
theorem FullI.skip {s : St} {th : List Bool} {k n : Nat} (h : FullI s th k n) : FullI s th (k + 1) n := ⟨h.ok, h.len, h.n8, h.fil, h.tl, h.th, h.nx0, by have := h.nxk; omega⟩
section
variable {s : St} {th : List Bool} {k n j : Nat} (h : FullI s th k n) (hj : j < 26)
include h hj
theorem FullI.there (hb : th[j]? = some true) : ∃ i, look s.l (lt1 j) = some i ∧ i.d = false := by
  rw [h.th j hj] at hb
  cases hk : look s.l (lt1 j) with
  | none => rw [hk] at hb; cases hb
  | some i => exact ⟨i, rfl, h.fil i (look_mem hk)⟩
theorem FullI.not (hb : th[j]? = some false) : look s.l (lt1 j) = none := by
  rw [h.th j hj] at hb
  cases hk : look s.l (lt1 j) with
  | none => rfl
  | some i => rw [hk] at hb; cases hb
theorem FullI.make (hb : th[j]? = some false) (hn : n < 8) : FullI ⟨s.l ++ [⟨lt1 j, false, s.nx⟩], s.nx + 1⟩ (th.set j true) (k + 1) (n + 1) := by
  have hk := h.not hj hb
  obtain ⟨h1, h2⟩ := lt1_name hj
  refine ⟨h.ok.snoc h1 hk (fun e => absurd (by rw [h2]) e) (fun e => absurd (by rw [h2]) e), by simp [h.len], by omega, fun i hi => ?_, by simp [h.tl], fun x hx => ?_, by have := h.nx0; show 0 ≤ s.nx + 1; omega, by have := h.nxk; show s.nx + 1 ≤ ((k + 1 : Nat) : Int); omega⟩
  · rcases List.mem_append.1 hi with hi | hi
    · exact h.fil i hi
    · rw [List.mem_singleton.1 hi]
  · rw [List.getElem?_set, look_snoc]
    by_cases e : j = x
    · subst e
      rw [if_pos rfl, if_pos (by rw [h.tl]; exact hj), hk]
      simp
    · rw [if_neg e, h.th x hx]
      have : ¬ lt1 j = lt1 x := fun e2 => e (lt1_inj hj hx e2)
      cases look s.l (lt1 x) with
      | none => simp [this]
      | some i => rfl
theorem FullI.drop (hb : th[j]? = some true) : FullI ⟨s.l.eraseP (is (lt1 j)), s.nx⟩ (th.set j false) (k + 1) (n - 1) ∧ 1 ≤ n := by
  obtain ⟨i, hi, hd⟩ := h.there hj hb
  have hl := erase_len hi
  have hn := h.len
  refine ⟨⟨h.ok.erase (h.ok.none_in hi hd), by show (s.l.eraseP _).length = n - 1; omega, by have := h.n8; omega, fun x hx => h.fil x (erase_mem hx), by simp [h.tl], fun x hx => ?_, h.nx0, by have := h.nxk; show s.nx ≤ ((k + 1 : Nat) : Int); omega⟩, by omega⟩
  rw [List.getElem?_set]
  by_cases e : j = x
  · subst e
    rw [if_pos rfl, if_pos (by rw [h.tl]; exact hj), show look (s.l.eraseP (is (lt1 j))) (lt1 j) = none from look_erase_self h.ok _]
    rfl
  · rw [if_neg e, h.th x hx, show look (s.l.eraseP (is (lt1 j))) (lt1 x) = look s.l (lt1 x) from look_erase_ne (fun e2 => e (lt1_inj hj hx e2.symm))]
end
section
variable {T : TP} {W w : World} {v : Value} {g : Nat} {o : Obj} {s : St} {th : List Bool} {k n j : Nat} (C : TreeC T) (h : FullI s th k n) (M : Mg T W w v s g o)
include C h M
variable (hj : j < 26) (hk : k ≤ 4611686018427387904)
include hj hk
end
end Go.Proofs.Ytckoapfmfpmdgaa

namespace Go.Proofs.Ytckoapfmfpmdgaa
open Go.ChangeShapes Go.WideShapes Go.ChangeAt Go.RowKit Go.Joins
set_option linter.unusedVariables false
set_option linter.unusedSimpArgs false

/-- Which number stands at a name; -1: none. -/
def nAt (l : List Itm) (p : List UInt8) : Int := match look l p with | none => -1 | some i => i.n
theorem ren_d {a b : List UInt8} {l : List Itm} {P : Itm → Prop} (hP : ∀ i ∈ l, P i) (hq : ∀ i, P i → P ⟨b, i.d, i.n⟩) : ∀ i ∈ ren a b l, P i := by
  intro i hi
  rcases mem_ren hi with ⟨j, hj, _, rfl⟩ | hi
  · exact hq j (hP j hj)
  · exact hP i hi
/-- Where each is, as the law keeps it. -/
structure MovI (s : St) (at_ : List Int) (n : Nat) : Prop where
  ok : Ok s.l
  len : s.l.length = n
  n8 : n ≤ 8
  fil : ∀ i ∈ s.l, i.d = false
  pos : ∀ i ∈ s.l, 0 ≤ i.n ∧ i.n ≤ 8
  al : at_.length = 8
  at_ : ∀ j, j < 8 → at_[j]? = some (nAt s.l (lt1 j))
section
variable {s : St} {at_ : List Int} {n x y : Nat} (h : MovI s at_ n)
include h
theorem MovI.yes {a : Int} (hx : x < 8) (ha : at_[x]? = some a) (h0 : 0 ≤ a) : ∃ i, look s.l (lt1 x) = some i ∧ i.d = false ∧ i.n = a := by
  rw [h.at_ x hx] at ha
  unfold nAt at ha
  cases hk : look s.l (lt1 x) with
  | none => rw [hk] at ha; simp at ha; omega
  | some i => rw [hk] at ha; exact ⟨i, rfl, h.fil i (look_mem hk), Option.some.inj ha⟩
theorem MovI.nil {a : Int} (hx : x < 8) (ha : at_[x]? = some a) (h0 : a < 0) : look s.l (lt1 x) = none ∧ a = -1 := by
  rw [h.at_ x hx] at ha
  unfold nAt at ha
  cases hk : look s.l (lt1 x) with
  | none => rw [hk] at ha; exact ⟨rfl, (Option.some.inj ha).symm⟩
  | some i => rw [hk] at ha; have := (h.pos i (look_mem hk)).1; have := Option.some.inj ha; simp only at this; omega
theorem MovI.free {a b : Int} (hx : x < 8) (hy : y < 8) (hxy : x ≠ y) (ha : at_[x]? = some a) (h0 : 0 ≤ a) (hb : at_[y]? = some b) (h1 : b < 0) :
    moveT s (lt1 x) (lt1 y) = ((-1, 0), ⟨ren (lt1 x) (lt1 y) s.l, s.nx⟩) ∧ MovI ⟨ren (lt1 x) (lt1 y) s.l, s.nx⟩ ((at_.set y a).set x (-1)) n := by
  obtain ⟨i, hi, hd, hin⟩ := h.yes hx ha h0
  obtain ⟨hj, _⟩ := h.nil hy hb h1
  have hne : ¬ lt1 x = lt1 y := fun e => hxy (lt1_inj (by omega) (by omega) e)
  refine ⟨?_, ⟨h.ok.rename hi hd (lt1_name (by omega)).1 (look_not hj) (fun e => absurd (by rw [(lt1_name (by omega)).2]) e), (ren_len _ _ _).trans h.len, h.n8, ren_d (P := fun i => i.d = false) h.fil (fun _ e => e), ren_d (P := fun i => 0 ≤ i.n ∧ i.n ≤ 8) h.pos (fun _ e => e), by simp [h.al], fun j hjx => ?_⟩⟩
  · unfold moveT
    rw [find_some (lt1_name (by omega)).1 (lt1_abv (by omega) _) hi, hd, if_pos rfl]
    simp only [Bool.false_eq_true, if_false]
    rw [if_pos (lt1_name (by omega)).1, if_pos (lt1_abv (by omega) _), if_neg hne, hj]
  · rw [List.getElem?_set, List.getElem?_set, List.length_set, h.al]
    unfold nAt
    by_cases e1 : x = j
    · subst e1
      rw [if_pos rfl, if_pos hx, show look (ren (lt1 x) (lt1 y) s.l) (lt1 x) = none from look_ren_from hne h.ok.nd]
    · rw [if_neg e1]
      by_cases e2 : y = j
      · subst e2
        rw [if_pos rfl, if_pos hy, show look (ren (lt1 x) (lt1 y) s.l) (lt1 y) = _ from look_ren_to hi (look_not hj)]
        simp [hin]
      · rw [if_neg e2, h.at_ j hjx, show look (ren (lt1 x) (lt1 y) s.l) (lt1 j) = _ from look_ren_ne (fun e => e1 (lt1_inj (by omega) (by omega) e.symm)) (fun e => e2 (lt1_inj (by omega) (by omega) e.symm))]
        rfl
theorem MovI.no {a : Int} (hx : x < 8) (ha : at_[x]? = some a) (h0 : a < 0) (p : List UInt8) : moveT s (lt1 x) p = ((-1, 65282), s) := by
  obtain ⟨hi, _⟩ := h.nil hx ha h0
  unfold moveT
  rw [find_none (lt1_name (by omega)).1 (lt1_abv (by omega) _) hi]
  rfl
end
end Go.Proofs.Ytckoapfmfpmdgaa

namespace Go.Proofs.Ytckoapfmfpmdgaa
open Go.ChangeShapes Go.WideShapes Go.ChangeAt Go.RowKit Go.Joins
set_option linter.unusedVariables false
set_option linter.unusedSimpArgs false

abbrev Ent := List UInt8 × Bool
def eC (e : Ent) : List Value := [.string (bs e.1), .bool e.2, .int .i64 0]
def eCs (es : List Ent) : List Value := es.flatMap eC
theorem eC_len (e : Ent) : (eC e).length = 3 := rfl
theorem eCs_snoc (es : List Ent) (e : Ent) : eCs (es ++ [e]) = eCs es ++ eC e := by unfold eCs; rw [List.flatMap_append]; simp
theorem own_ent {B : Nat} {w : World} {v : Value} {es : List Ent} (h : w.ownsRow B 44 3 v es.length (eCs es)) : EntAt w v es := by
  rcases h.2 with ⟨h0, h1⟩ | ⟨r, cap, cur, h0, h1, h2, h3, h4, h5, h6⟩
  · have := List.length_eq_zero_iff.1 h1
    subst this
    rw [h0]; exact EntAt.nil _
  · refine ⟨_, cap, h0, fun k e he => ⟨r, 0, rfl, ?_⟩⟩
    have hk := (List.getElem?_eq_some_iff.1 he).1
    have g : ∀ j v, (eCs es)[j]? = some v → w.cell? ⟨r, j, none⟩ = some v := fun j v hj => by
      rw [← h6, List.getElem?_take] at hj
      rw [cell_of_row w r j cur _ _ h2]
      split at hj
      · simpa using hj
      · cases hj
    rw [Nat.zero_add]
    exact ⟨g _ _ (flat_at eC_len es k 0 e he (by decide)), g _ _ (flat_at eC_len es k 1 e he (by decide)), 0, g _ _ (flat_at eC_len es k 2 e he (by decide))⟩
/-- A row of entries that is being laid, and a block ahead of it. -/
structure EI (W w : World) (g : Nat) (o : Obj) (v : Value) (es : List Ent) (k : Nat) : Prop where
  gw : Gw W w
  hg : w.heap[g]? = some o
  hW : W.heap.size ≤ g
  len : es.length = k
  row : w.ownsRow (g + 1) 44 3 v k (eCs es)
section
variable {W w : World} {g k : Nat} {o : Obj} {v : Value} {es : List Ent}
theorem EI.ge (h : EI W w g o v es k) : ∀ b, v.ownBlock = some b → g + 1 ≤ b := by
  intro b hb
  rcases h.row.2 with ⟨h0, _⟩ | ⟨r, cap, cur, h0, h1, _⟩
  · rw [h0] at hb; cases hb
  · rw [h0] at hb; cases hb; exact h1
theorem EI.on (h : EI W w g o v es k) {w' : World} (G : Gw w w') : EI W w' g o v es k :=
  ⟨h.gw.trans G, (G.block g (lt_of_heap h.hg)).trans h.hg, h.hW, h.len, own_keep h.row fun b _ hb => G.block b hb⟩
theorem EI.new {G : Gw W w} (o : Obj) : EI W (w.alloc o) w.heap.size o (.slice none 0 0) [] 0 :=
  ⟨G.trans (Gw.alloc _ _), heap_alloc_new w o, G.size, rfl, World.ownsRow_nil _ _ _ 3⟩
theorem EI.add (h : EI W w g o v es k) {w' : World} {v' : Value} {e : Ent} (own : w'.ownsRow (g + 1) 44 3 v' (k + 1) (eCs es ++ eC e)) (gr : w.grownBy w' v.ownBlock) : EI W w' g o v' (es ++ [e]) (k + 1) := by
  have hlt := lt_of_heap h.hg
  refine ⟨h.gw.grown gr (fun b hb => ?_), (gr.block g hlt (fun e => ?_)).trans h.hg, h.hW, by simp [h.len], by rw [eCs_snoc]; exact own⟩
  · have := h.ge b hb; have := h.hW; omega
  · have := h.ge g e.symm; omega
theorem EI.put {cs : Array Value} {t : TypeId} (h : EI W w g (.cells cs t (0, 0)) v es k) (i : Nat) (u : Value) : EI W (w.setCell ⟨g, i, none⟩ u) g (.cells (cs.setIfInBounds i u) t (0, 0)) v es k := by
  refine ⟨(But.set g w i u).gw h.gw h.hW, heap_setCell_same w g i cs t u h.hg, h.hW, h.len, own_keep h.row fun b hb _ => set_other (p := ⟨g, i, none⟩) (fun e => ?_)⟩
  have : b = g := e
  omega
/-- New at a row of entries: a tree beside the block. -/
theorem EI.tree {T : TP} (C : TreeC T) (h : EI W w g o v es k) (hs : ∀ e ∈ es, e.1.length ≤ 140737488351232) (hl : es.length ≤ 4611686018427387904) {s : St} (hn : newT es = some s) :
    Calls Try.prog 17 #[v] w fun e w' => ∃ a, e = .returned (.tuple #[.pointer (some a), .int .i64 0]) ∧ Mg T W w' (.pointer (some a)) s g o :=
  (C.new (own_ent (by rw [h.len]; exact h.row)) hs hl).mono fun e w' k => by
    unfold NewP at k
    rw [hn] at k
    obtain ⟨a, F, h1, h2, h3, h4⟩ := k
    have hlt := lt_of_heap h.hg
    exact ⟨a, h1, h.gw.trans h3, (h3.block g hlt).trans h.hg, h.hW, F, h2, fun k hk => Nat.le_trans h.gw.size (h4 k hk), fun hk => by have := h4 g hk; omega⟩
end
/-- A slice of pairs of bytes, as it lies. -/
def PairIn (W : World) (A : Option Addr) (l : List (Nat × Nat)) : Prop := ∀ (i : Nat) (z : Nat × Nat), l[i]? = some z → ∃ g off, A = some ⟨g, off, none⟩ ∧ g < W.heap.size ∧ W.cell? ⟨g, off + i * 2, none⟩ = some (.int .u8 (z.1 : Int)) ∧ W.cell? ⟨g, off + i * 2 + 1, none⟩ = some (.int .u8 (z.2 : Int)) ∧ z.1 ≤ 255 ∧ z.2 ≤ 255
theorem PairIn.on {W W' : World} {A : Option Addr} {l : List (Nat × Nat)} (h : PairIn W A l) (G : Gw W W') : PairIn W' A l := fun i z hz => by
  obtain ⟨g, off, h1, h2, h3, h4, h5⟩ := h i z hz
  exact ⟨g, off, h1, Nat.lt_of_lt_of_le h2 G.size, G.cell h3, G.cell h4, h5⟩
/-- Where each is, when so many have been set. -/
def av (k : Nat) : List Int := (List.range 8).map (fun j => if j < k then (if j < 5 then (j : Int) else -1) else 0)
end Go.Proofs.Ytckoapfmfpmdgaa

namespace Go.Proofs.Ytckoapfmfpmdgaa
open Go.ChangeShapes Go.WideShapes Go.ChangeAt Go.RowKit Go.Joins
set_option linter.unusedVariables false
set_option linter.unusedSimpArgs false

/-- A directory of the law's, and a path in it. -/
def dn (x : Nat) : List UInt8 := [UInt8.ofNat (100 + x)]
def pt (x k : Nat) : List UInt8 := [UInt8.ofNat (100 + x), 47, UInt8.ofNat (97 + k)]
theorem dn_name {x : Nat} (h : x < 2) : nameB (dn x) = true ∧ spl (dn x) = ([], dn x) := by
  have : ∀ x : Fin 2, nameB (dn x) = true ∧ spl (dn x) = ([], dn x) := by decide +kernel
  exact this ⟨x, h⟩
theorem pt_name {x k : Nat} (h : x < 2) (hk : k < 4) : nameB (pt x k) = true ∧ spl (pt x k) = (dn x, lt1 k) := by
  have : ∀ (x : Fin 2) (k : Fin 4), nameB (pt x k) = true ∧ spl (pt x k) = (dn x, lt1 k) := by decide +kernel
  exact this ⟨x, h⟩ ⟨k, hk⟩
theorem dn_ne (x : Nat) : dn x ≠ [] := by simp [dn]
theorem dn_inj {x y : Nat} (hx : x < 2) (hy : y < 2) (h : dn x = dn y) : x = y := by
  have : ∀ x y : Fin 2, dn x = dn y → x = y := by decide +kernel
  exact Fin.mk.inj_iff.1 (this ⟨x, hx⟩ ⟨y, hy⟩ h)
theorem pt_inj {x y j k : Nat} (hx : x < 2) (hy : y < 2) (hj : j < 4) (hk : k < 4) (h : pt x j = pt y k) : x * 4 + j = y * 4 + k := by
  have : ∀ (x y : Fin 2) (j k : Fin 4), pt x j = pt y k → x.val * 4 + j.val = y.val * 4 + k.val := by decide +kernel
  exact this ⟨x, hx⟩ ⟨y, hy⟩ ⟨j, hj⟩ ⟨k, hk⟩ h
theorem pt_dn (x y k : Nat) : pt x k ≠ dn y := by simp [pt, dn]
theorem dn_abv {x : Nat} (hx : x < 2) (l : List Itm) : abv l (dn x) = 0 := by unfold abv; rw [(dn_name hx).2]; rfl
/-- How many there are in one, of the first so many. -/
def cx (b : List Bool) (x m : Nat) : Nat := ((b.drop (x * 4)).take m).count true
def ca (b : List Bool) (m : Nat) : Nat := (b.take m).count true
theorem count_put {b : List Bool} {j : Nat} {u v : Bool} (h : b[j]? = some u) : (b.set j v).count true + (if u = true then 1 else 0) = b.count true + (if v = true then 1 else 0) := by
  induction b generalizing j with
  | nil => cases h
  | cons c b ih =>
    cases j with
    | zero => have : c = u := by simpa using h
              subst this
              cases c <;> cases v <;> simp
    | succ j =>
      have := ih (j := j) (by simpa using h)
      rw [List.set_cons_succ, List.count_cons, List.count_cons]
      omega
theorem ca_set {b : List Bool} {j : Nat} {u v : Bool} (hl : b.length = 8) (h : b[j]? = some u) : ca (b.set j v) 8 + (if u = true then 1 else 0) = ca b 8 + (if v = true then 1 else 0) := by
  unfold ca
  rw [List.take_of_length_le (by rw [List.length_set, hl]; exact Nat.le_refl _), List.take_of_length_le (by rw [hl]; exact Nat.le_refl _)]
  exact count_put h
theorem cx_set {b : List Bool} {x y k : Nat} {u v : Bool} (hx : x < 2) (hy : y < 2) (hk : k < 4) (hl : b.length = 8) (h : b[x * 4 + k]? = some u) :
    cx (b.set (x * 4 + k) v) y 4 + (if x = y then (if u = true then 1 else 0) else 0) = cx b y 4 + (if x = y then (if v = true then 1 else 0) else 0) := by
  unfold cx
  by_cases e : x = y
  · subst e
    have h' : ((b.drop (x * 4)).take 4)[k]? = some u := by rw [List.getElem?_take_of_lt hk, List.getElem?_drop]; exact h
    have := count_put (v := v) h'
    rw [if_pos rfl, if_pos rfl, List.drop_set, if_neg (by omega), List.take_set, show x * 4 + k - x * 4 = k by omega]
    exact this
  · rw [if_neg e, if_neg e, List.drop_set]
    split
    · rfl
    · rw [List.take_set, List.set_eq_of_length_le (by simp; omega)]
theorem many_snoc (l : List Itm) (i : Itm) (p : List UInt8) : manyL (l ++ [i]) p = manyL l p + (if (spl i.p).1 = p then 1 else 0) := by
  unfold manyL
  rw [List.filter_append, List.length_append]
  by_cases h : (spl i.p).1 = p <;> simp [h]
theorem many_erase {l : List Itm} {p q : List UInt8} {i : Itm} (h : look l p = some i) : manyL l q = manyL (l.eraseP (is p)) q + (if (spl p).1 = q then 1 else 0) := by
  obtain ⟨k, _, h2, h3, _⟩ := ix_some h
  obtain ⟨hk, he⟩ := List.getElem?_eq_some_iff.1 h2
  have e : l = l.take k ++ i :: l.drop (k + 1) := by rw [← he, ← List.drop_eq_getElem_cons hk, List.take_append_drop]
  have hp := look_path h
  rw [h3]
  conv => lhs; rw [e]
  unfold manyL
  rw [List.filter_append, List.filter_append, List.length_append, List.length_append, List.filter_cons, hp]
  by_cases hq : (spl p).1 = q
  · simp [hq]; omega
  · simp [hq]
/-- What is there, at the k-th of the law's numbers. -/
structure DirI (s : St) (b : List Bool) (k : Nat) : Prop where
  ok : Ok s.l
  len : s.l.length = 2 + ca b 8
  n8 : s.l.length ≤ 8
  bl : b.length = 8
  dir : ∀ x, x < 2 → ∃ i, look s.l (dn x) = some i ∧ i.d = true
  at_ : ∀ x j, x < 2 → j < 4 → b[x * 4 + j]? = some (look s.l (pt x j)).isSome
  many : ∀ x, x < 2 → manyL s.l (dn x) = cx b x 4
  nx0 : 0 ≤ s.nx
  nxk : s.nx ≤ 2 + (k : Int)
theorem DirI.skip {s : St} {b : List Bool} {k : Nat} (h : DirI s b k) : DirI s b (k + 1) := ⟨h.ok, h.len, h.n8, h.bl, h.dir, h.at_, h.many, h.nx0, by have := h.nxk; omega⟩
section
variable {s : St} {b : List Bool} {k x j : Nat} (h : DirI s b k) (hx : x < 2) (hj : j < 4)
include h hx
theorem DirI.full (hm : 0 < cx b x 4) : dropT s (dn x) true = (65319, s) := by
  obtain ⟨i, h1, h2⟩ := h.dir x hx
  unfold dropT
  rw [find_some (dn_name hx).1 (dn_abv hx _) h1, h2, h.many x hx]
  simp [hm]
include hj
theorem DirI.yes (hb : b[x * 4 + j]? = some true) : ∃ i, look s.l (pt x j) = some i ∧ i.d = false := by
  rw [h.at_ x j hx hj] at hb
  cases hk : look s.l (pt x j) with
  | none => rw [hk] at hb; cases hb
  | some i => exact ⟨i, rfl, h.ok.flat i (look_mem hk) (by rw [look_path hk, (pt_name hx hj).2]; exact dn_ne x)⟩
theorem DirI.nil (hb : b[x * 4 + j]? = some false) : look s.l (pt x j) = none := by
  rw [h.at_ x j hx hj] at hb
  cases hk : look s.l (pt x j) with
  | none => rfl
  | some i => rw [hk] at hb; cases hb
theorem DirI.make (hb : b[x * 4 + j]? = some false) (hn : s.l.length < 8) : DirI ⟨s.l ++ [⟨pt x j, false, s.nx⟩], s.nx + 1⟩ (b.set (x * 4 + j) true) (k + 1) := by
  have hk := h.nil hx hj hb
  obtain ⟨h1, h2⟩ := pt_name hx hj
  have hc := ca_set (v := true) h.bl hb
  refine ⟨h.ok.snoc h1 hk (fun _ => ?_) (fun _ => rfl), ?_, by simp; omega, by simp [h.bl], fun y hy => ?_, fun y m hy hm => ?_, fun y hy => ?_, by have := h.nx0; show 0 ≤ s.nx + 1; omega, by have := h.nxk; show s.nx + 1 ≤ 2 + ((k + 1 : Nat) : Int); omega⟩
  · obtain ⟨i, d1, d2⟩ := h.dir x hx
    exact ⟨i, look_mem d1, by rw [look_path d1, h2], d2⟩
  · have := h.len
    simp at hc
    simp; omega
  · obtain ⟨i, d1, d2⟩ := h.dir y hy
    exact ⟨i, by rw [look_snoc, d1], d2⟩
  · rw [List.getElem?_set, look_snoc]
    by_cases e : x * 4 + j = y * 4 + m
    · have e1 : x = y := by omega
      have e2 : j = m := by omega
      subst e1 e2
      rw [if_pos rfl, if_pos (by rw [h.bl]; omega), hk]
      simp
    · rw [if_neg e, h.at_ y m hy hm]
      have : ¬ pt x j = pt y m := fun e2 => e (pt_inj hx hy hj hm e2)
      cases look s.l (pt y m) with
      | none => simp [this]
      | some i => rfl
  · have := cx_set (v := true) hx hy hj h.bl hb
    rw [many_snoc, h.many y hy, h2]
    by_cases e : x = y
    · subst e; simp at this ⊢; omega
    · have : ¬ dn x = dn y := fun e2 => e (dn_inj hx hy e2)
      simp [e] at *; simp [this]; omega
theorem DirI.drop (hb : b[x * 4 + j]? = some true) : DirI ⟨s.l.eraseP (is (pt x j)), s.nx⟩ (b.set (x * 4 + j) false) (k + 1) := by
  obtain ⟨i, hi, hd⟩ := h.yes hx hj hb
  obtain ⟨h1, h2⟩ := pt_name hx hj
  have hl := erase_len hi
  have hc := ca_set (v := false) h.bl hb
  have hln := h.len
  have hn8 := h.n8
  refine ⟨h.ok.erase (h.ok.none_in hi hd), ?_, by show (s.l.eraseP _).length ≤ 8; omega, by simp [h.bl], fun y hy => ?_, fun y m hy hm => ?_, fun y hy => ?_, h.nx0, by have := h.nxk; show s.nx ≤ 2 + ((k + 1 : Nat) : Int); omega⟩
  · simp at hc
    show (s.l.eraseP _).length = _
    omega
  · obtain ⟨i, d1, d2⟩ := h.dir y hy
    exact ⟨i, (look_erase_ne (pt_dn x y j).symm).trans d1, d2⟩
  · rw [List.getElem?_set]
    by_cases e : x * 4 + j = y * 4 + m
    · have e1 : x = y := by omega
      have e2 : j = m := by omega
      subst e1 e2
      rw [if_pos rfl, if_pos (by rw [h.bl]; omega), show look (s.l.eraseP (is (pt x j))) (pt x j) = none from look_erase_self h.ok _]
      rfl
    · rw [if_neg e, h.at_ y m hy hm, show look (s.l.eraseP (is (pt x j))) (pt y m) = look s.l (pt y m) from look_erase_ne (fun e2 => e (pt_inj hx hy hj hm e2.symm))]
  · have := cx_set (v := false) hx hy hj h.bl hb
    have hm := many_erase (q := dn y) hi
    rw [h.many y hy, h2] at hm
    show manyL (s.l.eraseP _) (dn y) = _
    by_cases e : x = y
    · subst e; simp at this hm ⊢; omega
    · have hne : ¬ dn x = dn y := fun e2 => e (dn_inj hx hy e2)
      simp [e] at this; simp [hne] at hm; omega
end
end Go.Proofs.Ytckoapfmfpmdgaa

namespace Go.Proofs.Ytckoapfmfpmdgaa
open Go.ChangeShapes Go.WideShapes Go.ChangeAt Go.RowKit Go.Joins
set_option linter.unusedVariables false
set_option linter.unusedSimpArgs false

end Go.Proofs.Ytckoapfmfpmdgaa

namespace Go.Proofs.Ytckoapfmfpmdgaa
open Go.ChangeShapes Go.WideShapes Go.ChangeAt Go.RowKit Go.Joins
set_option linter.unusedVariables false
set_option linter.unusedSimpArgs false

section
variable {T : TP} (C : TreeC T) {W w : World} {v : Value}
include C
end
theorem ent_sm {es : List Ent} (h : es.all (fun e => decide (e.1.length ≤ 8)) = true) : ∀ e ∈ es, e.1.length ≤ 140737488351232 := fun e he => by
  have := of_decide_eq_true (List.all_eq_true.1 h e he)
  omega
theorem ent_row {w : World} {g : Nat} {es : List Ent} {cs : Array Value} (hh : Has w g 44 cs) (hc : cs.toList = eCs es) : EntAt w (.slice (some ⟨g, 0, none⟩) es.length es.length) es := by
  refine ⟨_, es.length, rfl, fun k e he => ⟨g, 0, rfl, ?_⟩⟩
  have a0 := flat_at eC_len es k 0 e he (by decide)
  have a1 := flat_at eC_len es k 1 e he (by decide)
  have t : ∀ j v, (es.flatMap eC)[j]? = some v → w.cell? ⟨g, j, none⟩ = some v := fun j v hj => by
    have hj' : (eCs es)[j]? = some v := hj
    rw [← hc, Array.getElem?_toList] at hj'
    exact (hh.cell j).trans hj'
  rw [Nat.zero_add]
  exact ⟨t _ _ a0, t _ _ a1, 0, t _ _ (flat_at eC_len es k 2 e he (by decide))⟩
end Go.Proofs.Ytckoapfmfpmdgaa
