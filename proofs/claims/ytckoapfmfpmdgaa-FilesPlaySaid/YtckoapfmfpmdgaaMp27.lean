/-
  Parts of the proof, joined: TreeQ, TreeA, TreeB, TreeH, TreeI, TreeZ, FileV, FileW, FileX, FileOp.
-/
import Derived.Test.YtckoapfmfpmdgaaMp26
import Derived.Deep.OwnRows
import Derived.Deep.DeepCutAuto
import Derived.Deep.RegionLaw
import Derived.Deep.Strs
import Derived.Test.YtckoapfmfpmdgaaMp14

namespace Go.Proofs.Ytckoapfmfpmdgaa
open Go.ChangeShapes Go.WideShapes Go.ChangeAt Go.RowKit Go.Joins
set_option linter.unusedVariables false
set_option linter.unusedSimpArgs false

/-- What is there, at the k-th of the law's numbers. -/
structure FullI (s : St) (th : List Bool) (k n : Nat) : Prop where
  ok : Ok s.l
  len : s.l.length = n
  n8 : n ≤ 8
  fil : ∀ i ∈ s.l, i.d = false
  tl : th.length = 26
  th : ∀ j, j < 26 → th[j]? = some (look s.l (lt1 j)).isSome
  nx0 : 0 ≤ s.nx
  nxk : s.nx ≤ k
theorem FullI.nil : FullI ⟨[], 0⟩ (List.replicate 26 false) 0 0 :=
  ⟨Ok.nil, rfl, by decide, fun i h => (by cases h), by simp, fun j hj => by rw [List.getElem?_replicate, if_pos hj]; rfl, by decide, by decide⟩
theorem FullI.skip {s : St} {th : List Bool} {k n : Nat} (h : FullI s th k n) : FullI s th (k + 1) n := ⟨h.ok, h.len, h.n8, h.fil, h.tl, h.th, h.nx0, by have := h.nxk; omega⟩
section
variable {s : St} {th : List Bool} {k n j : Nat} (h : FullI s th k n) (hj : j < 26)
include h hj
theorem FullI.there (hb : th[j]? = some true) : ∃ i, look s.l (lt1 j) = some i ∧ i.d = false := by
  rw [h.th j hj] at hb
  cases hk : look s.l (lt1 j) with
  | none => rw [hk] at hb; cases hb
  | some i => exact ⟨i, rfl, h.fil i (look_mem hk)⟩
theorem FullI.not (hb : th[j]? = some false) : look s.l (lt1 j) = none := by
  rw [h.th j hj] at hb
  cases hk : look s.l (lt1 j) with
  | none => rfl
  | some i => rw [hk] at hb; cases hb
theorem FullI.make (hb : th[j]? = some false) (hn : n < 8) : FullI ⟨s.l ++ [⟨lt1 j, false, s.nx⟩], s.nx + 1⟩ (th.set j true) (k + 1) (n + 1) := by
  have hk := h.not hj hb
  obtain ⟨h1, h2⟩ := lt1_name hj
  refine ⟨h.ok.snoc h1 hk (fun e => absurd (by rw [h2]) e) (fun e => absurd (by rw [h2]) e), by simp [h.len], by omega, fun i hi => ?_, by simp [h.tl], fun x hx => ?_, by have := h.nx0; show 0 ≤ s.nx + 1; omega, by have := h.nxk; show s.nx + 1 ≤ ((k + 1 : Nat) : Int); omega⟩
  · rcases List.mem_append.1 hi with hi | hi
    · exact h.fil i hi
    · rw [List.mem_singleton.1 hi]
  · rw [List.getElem?_set, look_snoc]
    by_cases e : j = x
    · subst e
      rw [if_pos rfl, if_pos (by rw [h.tl]; exact hj), hk]
      simp
    · rw [if_neg e, h.th x hx]
      have : ¬ lt1 j = lt1 x := fun e2 => e (lt1_inj hj hx e2)
      cases look s.l (lt1 x) with
      | none => simp [this]
      | some i => rfl
theorem FullI.drop (hb : th[j]? = some true) : FullI ⟨s.l.eraseP (is (lt1 j)), s.nx⟩ (th.set j false) (k + 1) (n - 1) ∧ 1 ≤ n := by
  obtain ⟨i, hi, hd⟩ := h.there hj hb
  have hl := erase_len hi
  have hn := h.len
  refine ⟨⟨h.ok.erase (h.ok.none_in hi hd), by show (s.l.eraseP _).length = n - 1; omega, by have := h.n8; omega, fun x hx => h.fil x (erase_mem hx), by simp [h.tl], fun x hx => ?_, h.nx0, by have := h.nxk; show s.nx ≤ ((k + 1 : Nat) : Int); omega⟩, by omega⟩
  rw [List.getElem?_set]
  by_cases e : j = x
  · subst e
    rw [if_pos rfl, if_pos (by rw [h.tl]; exact hj), show look (s.l.eraseP (is (lt1 j))) (lt1 j) = none from look_erase_self h.ok _]
    rfl
  · rw [if_neg e, h.th x hx, show look (s.l.eraseP (is (lt1 j))) (lt1 x) = look s.l (lt1 x) from look_erase_ne (fun e2 => e (lt1_inj hj hx e2.symm))]
end
section
variable {T : TP} {W w : World} {v : Value} {g : Nat} {o : Obj} {s : St} {th : List Bool} {k n j : Nat} (C : TreeC T) (h : FullI s th k n) (M : Mg T W w v s g o)
include C h M
variable (hj : j < 26) (hk : k ≤ 4611686018427387904)
include hj hk
omit hj hk in
omit hk in
omit hk in
end
end Go.Proofs.Ytckoapfmfpmdgaa

namespace Go.Proofs.Ytckoapfmfpmdgaa
open Go.ChangeShapes Go.WideShapes Go.ChangeAt Go.RowKit Go.Joins
set_option linter.unusedVariables false
set_option linter.unusedSimpArgs false

/-- Which number stands at a name; -1: none. -/
def nAt (l : List Itm) (p : List UInt8) : Int := match look l p with | none => -1 | some i => i.n
theorem ren_d {a b : List UInt8} {l : List Itm} {P : Itm → Prop} (hP : ∀ i ∈ l, P i) (hq : ∀ i, P i → P ⟨b, i.d, i.n⟩) : ∀ i ∈ ren a b l, P i := by
  intro i hi
  rcases mem_ren hi with ⟨j, hj, _, rfl⟩ | hi
  · exact hq j (hP j hj)
  · exact hP i hi
/-- Where each is, as the law keeps it. -/
structure MovI (s : St) (at_ : List Int) (n : Nat) : Prop where
  ok : Ok s.l
  len : s.l.length = n
  n8 : n ≤ 8
  fil : ∀ i ∈ s.l, i.d = false
  pos : ∀ i ∈ s.l, 0 ≤ i.n ∧ i.n ≤ 8
  al : at_.length = 8
  at_ : ∀ j, j < 8 → at_[j]? = some (nAt s.l (lt1 j))
section
variable {s : St} {at_ : List Int} {n x y : Nat} (h : MovI s at_ n)
include h
theorem MovI.yes {a : Int} (hx : x < 8) (ha : at_[x]? = some a) (h0 : 0 ≤ a) : ∃ i, look s.l (lt1 x) = some i ∧ i.d = false ∧ i.n = a := by
  rw [h.at_ x hx] at ha
  unfold nAt at ha
  cases hk : look s.l (lt1 x) with
  | none => rw [hk] at ha; simp at ha; omega
  | some i => rw [hk] at ha; exact ⟨i, rfl, h.fil i (look_mem hk), Option.some.inj ha⟩
theorem MovI.nil {a : Int} (hx : x < 8) (ha : at_[x]? = some a) (h0 : a < 0) : look s.l (lt1 x) = none ∧ a = -1 := by
  rw [h.at_ x hx] at ha
  unfold nAt at ha
  cases hk : look s.l (lt1 x) with
  | none => rw [hk] at ha; exact ⟨rfl, (Option.some.inj ha).symm⟩
  | some i => rw [hk] at ha; have := (h.pos i (look_mem hk)).1; have := Option.some.inj ha; simp only at this; omega
theorem MovI.free {a b : Int} (hx : x < 8) (hy : y < 8) (hxy : x ≠ y) (ha : at_[x]? = some a) (h0 : 0 ≤ a) (hb : at_[y]? = some b) (h1 : b < 0) :
    moveT s (lt1 x) (lt1 y) = ((-1, 0), ⟨ren (lt1 x) (lt1 y) s.l, s.nx⟩) ∧ MovI ⟨ren (lt1 x) (lt1 y) s.l, s.nx⟩ ((at_.set y a).set x (-1)) n := by
  obtain ⟨i, hi, hd, hin⟩ := h.yes hx ha h0
  obtain ⟨hj, _⟩ := h.nil hy hb h1
  have hne : ¬ lt1 x = lt1 y := fun e => hxy (lt1_inj (by omega) (by omega) e)
  refine ⟨?_, ⟨h.ok.rename hi hd (lt1_name (by omega)).1 (look_not hj) (fun e => absurd (by rw [(lt1_name (by omega)).2]) e), (ren_len _ _ _).trans h.len, h.n8, ren_d (P := fun i => i.d = false) h.fil (fun _ e => e), ren_d (P := fun i => 0 ≤ i.n ∧ i.n ≤ 8) h.pos (fun _ e => e), by simp [h.al], fun j hjx => ?_⟩⟩
  · unfold moveT
    rw [find_some (lt1_name (by omega)).1 (lt1_abv (by omega) _) hi, hd, if_pos rfl]
    simp only [Bool.false_eq_true, if_false]
    rw [if_pos (lt1_name (by omega)).1, if_pos (lt1_abv (by omega) _), if_neg hne, hj]
  · rw [List.getElem?_set, List.getElem?_set, List.length_set, h.al]
    unfold nAt
    by_cases e1 : x = j
    · subst e1
      rw [if_pos rfl, if_pos hx, show look (ren (lt1 x) (lt1 y) s.l) (lt1 x) = none from look_ren_from hne h.ok.nd]
    · rw [if_neg e1]
      by_cases e2 : y = j
      · subst e2
        rw [if_pos rfl, if_pos hy, show look (ren (lt1 x) (lt1 y) s.l) (lt1 y) = _ from look_ren_to hi (look_not hj)]
        simp [hin]
      · rw [if_neg e2, h.at_ j hjx, show look (ren (lt1 x) (lt1 y) s.l) (lt1 j) = _ from look_ren_ne (fun e => e1 (lt1_inj (by omega) (by omega) e.symm)) (fun e => e2 (lt1_inj (by omega) (by omega) e.symm))]
        rfl
theorem MovI.no {a : Int} (hx : x < 8) (ha : at_[x]? = some a) (h0 : a < 0) (p : List UInt8) : moveT s (lt1 x) p = ((-1, 65282), s) := by
  obtain ⟨hi, _⟩ := h.nil hx ha h0
  unfold moveT
  rw [find_none (lt1_name (by omega)).1 (lt1_abv (by omega) _) hi]
  rfl
end
end Go.Proofs.Ytckoapfmfpmdgaa

namespace Go.Proofs.Ytckoapfmfpmdgaa
open Go.ChangeShapes Go.WideShapes Go.ChangeAt Go.RowKit Go.Joins
set_option linter.unusedVariables false
set_option linter.unusedSimpArgs false

abbrev Ent := List UInt8 × Bool
def eC (e : Ent) : List Value := [.string (bs e.1), .bool e.2, .int .i64 0]
def eCs (es : List Ent) : List Value := es.flatMap eC
theorem eC_len (e : Ent) : (eC e).length = 3 := rfl
theorem eCs_snoc (es : List Ent) (e : Ent) : eCs (es ++ [e]) = eCs es ++ eC e := by unfold eCs; rw [List.flatMap_append]; simp
theorem own_ent {B : Nat} {w : World} {v : Value} {es : List Ent} (h : w.ownsRow B 44 3 v es.length (eCs es)) : EntAt w v es := by
  rcases h.2 with ⟨h0, h1⟩ | ⟨r, cap, cur, h0, h1, h2, h3, h4, h5, h6⟩
  · have := List.length_eq_zero_iff.1 h1
    subst this
    rw [h0]; exact EntAt.nil _
  · refine ⟨_, cap, h0, fun k e he => ⟨r, 0, rfl, ?_⟩⟩
    have hk := (List.getElem?_eq_some_iff.1 he).1
    have g : ∀ j v, (eCs es)[j]? = some v → w.cell? ⟨r, j, none⟩ = some v := fun j v hj => by
      rw [← h6, List.getElem?_take] at hj
      rw [cell_of_row w r j cur _ _ h2]
      split at hj
      · simpa using hj
      · cases hj
    rw [Nat.zero_add]
    exact ⟨g _ _ (flat_at eC_len es k 0 e he (by decide)), g _ _ (flat_at eC_len es k 1 e he (by decide)), 0, g _ _ (flat_at eC_len es k 2 e he (by decide))⟩
/-- A row of entries that is being laid, and a block ahead of it. -/
structure EI (W w : World) (g : Nat) (o : Obj) (v : Value) (es : List Ent) (k : Nat) : Prop where
  gw : Gw W w
  hg : w.heap[g]? = some o
  hW : W.heap.size ≤ g
  len : es.length = k
  row : w.ownsRow (g + 1) 44 3 v k (eCs es)
section
variable {W w : World} {g k : Nat} {o : Obj} {v : Value} {es : List Ent}
theorem EI.ge (h : EI W w g o v es k) : ∀ b, v.ownBlock = some b → g + 1 ≤ b := by
  intro b hb
  rcases h.row.2 with ⟨h0, _⟩ | ⟨r, cap, cur, h0, h1, _⟩
  · rw [h0] at hb; cases hb
  · rw [h0] at hb; cases hb; exact h1
theorem EI.on (h : EI W w g o v es k) {w' : World} (G : Gw w w') : EI W w' g o v es k :=
  ⟨h.gw.trans G, (G.block g (lt_of_heap h.hg)).trans h.hg, h.hW, h.len, own_keep h.row fun b _ hb => G.block b hb⟩
theorem EI.new {G : Gw W w} (o : Obj) : EI W (w.alloc o) w.heap.size o (.slice none 0 0) [] 0 :=
  ⟨G.trans (Gw.alloc _ _), heap_alloc_new w o, G.size, rfl, World.ownsRow_nil _ _ _ 3⟩
theorem EI.add (h : EI W w g o v es k) {w' : World} {v' : Value} {e : Ent} (own : w'.ownsRow (g + 1) 44 3 v' (k + 1) (eCs es ++ eC e)) (gr : w.grownBy w' v.ownBlock) : EI W w' g o v' (es ++ [e]) (k + 1) := by
  have hlt := lt_of_heap h.hg
  refine ⟨h.gw.grown gr (fun b hb => ?_), (gr.block g hlt (fun e => ?_)).trans h.hg, h.hW, by simp [h.len], by rw [eCs_snoc]; exact own⟩
  · have := h.ge b hb; have := h.hW; omega
  · have := h.ge g e.symm; omega
theorem EI.put {cs : Array Value} {t : TypeId} (h : EI W w g (.cells cs t (0, 0)) v es k) (i : Nat) (u : Value) : EI W (w.setCell ⟨g, i, none⟩ u) g (.cells (cs.setIfInBounds i u) t (0, 0)) v es k := by
  refine ⟨(But.set g w i u).gw h.gw h.hW, heap_setCell_same w g i cs t u h.hg, h.hW, h.len, own_keep h.row fun b hb _ => set_other (p := ⟨g, i, none⟩) (fun e => ?_)⟩
  have : b = g := e
  omega
/-- New at a row of entries: a tree beside the block. -/
theorem EI.tree {T : TP} (C : TreeC T) (h : EI W w g o v es k) (hs : ∀ e ∈ es, e.1.length ≤ 140737488351232) (hl : es.length ≤ 4611686018427387904) {s : St} (hn : newT es = some s) :
    Calls Try.prog 17 #[v] w fun e w' => ∃ a, e = .returned (.tuple #[.pointer (some a), .int .i64 0]) ∧ Mg T W w' (.pointer (some a)) s g o :=
  (C.new (own_ent (by rw [h.len]; exact h.row)) hs hl).mono fun e w' k => by
    unfold NewP at k
    rw [hn] at k
    obtain ⟨a, F, h1, h2, h3, h4⟩ := k
    have hlt := lt_of_heap h.hg
    exact ⟨a, h1, h.gw.trans h3, (h3.block g hlt).trans h.hg, h.hW, F, h2, fun k hk => Nat.le_trans h.gw.size (h4 k hk), fun hk => by have := h4 g hk; omega⟩
end
/-- A slice of pairs of bytes, as it lies. -/
def PairIn (W : World) (A : Option Addr) (l : List (Nat × Nat)) : Prop := ∀ (i : Nat) (z : Nat × Nat), l[i]? = some z → ∃ g off, A = some ⟨g, off, none⟩ ∧ g < W.heap.size ∧ W.cell? ⟨g, off + i * 2, none⟩ = some (.int .u8 (z.1 : Int)) ∧ W.cell? ⟨g, off + i * 2 + 1, none⟩ = some (.int .u8 (z.2 : Int)) ∧ z.1 ≤ 255 ∧ z.2 ≤ 255
theorem PairIn.on {W W' : World} {A : Option Addr} {l : List (Nat × Nat)} (h : PairIn W A l) (G : Gw W W') : PairIn W' A l := fun i z hz => by
  obtain ⟨g, off, h1, h2, h3, h4, h5⟩ := h i z hz
  exact ⟨g, off, h1, Nat.lt_of_lt_of_le h2 G.size, G.cell h3, G.cell h4, h5⟩
/-- Where each is, when so many have been set. -/
def av (k : Nat) : List Int := (List.range 8).map (fun j => if j < k then (if j < 5 then (j : Int) else -1) else 0)
end Go.Proofs.Ytckoapfmfpmdgaa

namespace Go.Proofs.Ytckoapfmfpmdgaa
open Go.ChangeShapes Go.WideShapes Go.ChangeAt Go.RowKit Go.Joins
set_option linter.unusedVariables false
set_option linter.unusedSimpArgs false

/-- A directory of the law's, and a path in it. -/
def dn (x : Nat) : List UInt8 := [UInt8.ofNat (100 + x)]
def pt (x k : Nat) : List UInt8 := [UInt8.ofNat (100 + x), 47, UInt8.ofNat (97 + k)]
theorem pt_name {x k : Nat} (h : x < 2) (hk : k < 4) : nameB (pt x k) = true ∧ spl (pt x k) = (dn x, lt1 k) := by
  have : ∀ (x : Fin 2) (k : Fin 4), nameB (pt x k) = true ∧ spl (pt x k) = (dn x, lt1 k) := by decide +kernel
  exact this ⟨x, h⟩ ⟨k, hk⟩
theorem dn_ne (x : Nat) : dn x ≠ [] := by simp [dn]
theorem dn_inj {x y : Nat} (hx : x < 2) (hy : y < 2) (h : dn x = dn y) : x = y := by
  have : ∀ x y : Fin 2, dn x = dn y → x = y := by decide +kernel
  exact Fin.mk.inj_iff.1 (this ⟨x, hx⟩ ⟨y, hy⟩ h)
theorem pt_inj {x y j k : Nat} (hx : x < 2) (hy : y < 2) (hj : j < 4) (hk : k < 4) (h : pt x j = pt y k) : x * 4 + j = y * 4 + k := by
  have : ∀ (x y : Fin 2) (j k : Fin 4), pt x j = pt y k → x.val * 4 + j.val = y.val * 4 + k.val := by decide +kernel
  exact this ⟨x, hx⟩ ⟨y, hy⟩ ⟨j, hj⟩ ⟨k, hk⟩ h
theorem pt_dn (x y k : Nat) : pt x k ≠ dn y := by simp [pt, dn]
/-- How many there are in one, of the first so many. -/
def cx (b : List Bool) (x m : Nat) : Nat := ((b.drop (x * 4)).take m).count true
def ca (b : List Bool) (m : Nat) : Nat := (b.take m).count true
theorem count_put {b : List Bool} {j : Nat} {u v : Bool} (h : b[j]? = some u) : (b.set j v).count true + (if u = true then 1 else 0) = b.count true + (if v = true then 1 else 0) := by
  induction b generalizing j with
  | nil => cases h
  | cons c b ih =>
    cases j with
    | zero => have : c = u := by simpa using h
              subst this
              cases c <;> cases v <;> simp
    | succ j =>
      have := ih (j := j) (by simpa using h)
      rw [List.set_cons_succ, List.count_cons, List.count_cons]
      omega
theorem ca_set {b : List Bool} {j : Nat} {u v : Bool} (hl : b.length = 8) (h : b[j]? = some u) : ca (b.set j v) 8 + (if u = true then 1 else 0) = ca b 8 + (if v = true then 1 else 0) := by
  unfold ca
  rw [List.take_of_length_le (by rw [List.length_set, hl]; exact Nat.le_refl _), List.take_of_length_le (by rw [hl]; exact Nat.le_refl _)]
  exact count_put h
theorem cx_set {b : List Bool} {x y k : Nat} {u v : Bool} (hx : x < 2) (hy : y < 2) (hk : k < 4) (hl : b.length = 8) (h : b[x * 4 + k]? = some u) :
    cx (b.set (x * 4 + k) v) y 4 + (if x = y then (if u = true then 1 else 0) else 0) = cx b y 4 + (if x = y then (if v = true then 1 else 0) else 0) := by
  unfold cx
  by_cases e : x = y
  · subst e
    have h' : ((b.drop (x * 4)).take 4)[k]? = some u := by rw [List.getElem?_take_of_lt hk, List.getElem?_drop]; exact h
    have := count_put (v := v) h'
    rw [if_pos rfl, if_pos rfl, List.drop_set, if_neg (by omega), List.take_set, show x * 4 + k - x * 4 = k by omega]
    exact this
  · rw [if_neg e, if_neg e, List.drop_set]
    split
    · rfl
    · rw [List.take_set, List.set_eq_of_length_le (by simp; omega)]
theorem many_snoc (l : List Itm) (i : Itm) (p : List UInt8) : manyL (l ++ [i]) p = manyL l p + (if (spl i.p).1 = p then 1 else 0) := by
  unfold manyL
  rw [List.filter_append, List.length_append]
  by_cases h : (spl i.p).1 = p <;> simp [h]
theorem many_erase {l : List Itm} {p q : List UInt8} {i : Itm} (h : look l p = some i) : manyL l q = manyL (l.eraseP (is p)) q + (if (spl p).1 = q then 1 else 0) := by
  obtain ⟨k, _, h2, h3, _⟩ := ix_some h
  obtain ⟨hk, he⟩ := List.getElem?_eq_some_iff.1 h2
  have e : l = l.take k ++ i :: l.drop (k + 1) := by rw [← he, ← List.drop_eq_getElem_cons hk, List.take_append_drop]
  have hp := look_path h
  rw [h3]
  conv => lhs; rw [e]
  unfold manyL
  rw [List.filter_append, List.filter_append, List.length_append, List.length_append, List.filter_cons, hp]
  by_cases hq : (spl p).1 = q
  · simp [hq]; omega
  · simp [hq]
/-- What is there, at the k-th of the law's numbers. -/
structure DirI (s : St) (b : List Bool) (k : Nat) : Prop where
  ok : Ok s.l
  len : s.l.length = 2 + ca b 8
  n8 : s.l.length ≤ 8
  bl : b.length = 8
  dir : ∀ x, x < 2 → ∃ i, look s.l (dn x) = some i ∧ i.d = true
  at_ : ∀ x j, x < 2 → j < 4 → b[x * 4 + j]? = some (look s.l (pt x j)).isSome
  many : ∀ x, x < 2 → manyL s.l (dn x) = cx b x 4
  nx0 : 0 ≤ s.nx
  nxk : s.nx ≤ 2 + (k : Int)
theorem DirI.skip {s : St} {b : List Bool} {k : Nat} (h : DirI s b k) : DirI s b (k + 1) := ⟨h.ok, h.len, h.n8, h.bl, h.dir, h.at_, h.many, h.nx0, by have := h.nxk; omega⟩
section
variable {s : St} {b : List Bool} {k x j : Nat} (h : DirI s b k) (hx : x < 2) (hj : j < 4)
include h hx
include hj
theorem DirI.yes (hb : b[x * 4 + j]? = some true) : ∃ i, look s.l (pt x j) = some i ∧ i.d = false := by
  rw [h.at_ x j hx hj] at hb
  cases hk : look s.l (pt x j) with
  | none => rw [hk] at hb; cases hb
  | some i => exact ⟨i, rfl, h.ok.flat i (look_mem hk) (by rw [look_path hk, (pt_name hx hj).2]; exact dn_ne x)⟩
theorem DirI.nil (hb : b[x * 4 + j]? = some false) : look s.l (pt x j) = none := by
  rw [h.at_ x j hx hj] at hb
  cases hk : look s.l (pt x j) with
  | none => rfl
  | some i => rw [hk] at hb; cases hb
theorem DirI.make (hb : b[x * 4 + j]? = some false) (hn : s.l.length < 8) : DirI ⟨s.l ++ [⟨pt x j, false, s.nx⟩], s.nx + 1⟩ (b.set (x * 4 + j) true) (k + 1) := by
  have hk := h.nil hx hj hb
  obtain ⟨h1, h2⟩ := pt_name hx hj
  have hc := ca_set (v := true) h.bl hb
  refine ⟨h.ok.snoc h1 hk (fun _ => ?_) (fun _ => rfl), ?_, by simp; omega, by simp [h.bl], fun y hy => ?_, fun y m hy hm => ?_, fun y hy => ?_, by have := h.nx0; show 0 ≤ s.nx + 1; omega, by have := h.nxk; show s.nx + 1 ≤ 2 + ((k + 1 : Nat) : Int); omega⟩
  · obtain ⟨i, d1, d2⟩ := h.dir x hx
    exact ⟨i, look_mem d1, by rw [look_path d1, h2], d2⟩
  · have := h.len
    simp at hc
    simp; omega
  · obtain ⟨i, d1, d2⟩ := h.dir y hy
    exact ⟨i, by rw [look_snoc, d1], d2⟩
  · rw [List.getElem?_set, look_snoc]
    by_cases e : x * 4 + j = y * 4 + m
    · have e1 : x = y := by omega
      have e2 : j = m := by omega
      subst e1 e2
      rw [if_pos rfl, if_pos (by rw [h.bl]; omega), hk]
      simp
    · rw [if_neg e, h.at_ y m hy hm]
      have : ¬ pt x j = pt y m := fun e2 => e (pt_inj hx hy hj hm e2)
      cases look s.l (pt y m) with
      | none => simp [this]
      | some i => rfl
  · have := cx_set (v := true) hx hy hj h.bl hb
    rw [many_snoc, h.many y hy, h2]
    by_cases e : x = y
    · subst e; simp at this ⊢; omega
    · have : ¬ dn x = dn y := fun e2 => e (dn_inj hx hy e2)
      simp [e] at *; simp [this]; omega
theorem DirI.drop (hb : b[x * 4 + j]? = some true) : DirI ⟨s.l.eraseP (is (pt x j)), s.nx⟩ (b.set (x * 4 + j) false) (k + 1) := by
  obtain ⟨i, hi, hd⟩ := h.yes hx hj hb
  obtain ⟨h1, h2⟩ := pt_name hx hj
  have hl := erase_len hi
  have hc := ca_set (v := false) h.bl hb
  have hln := h.len
  have hn8 := h.n8
  refine ⟨h.ok.erase (h.ok.none_in hi hd), ?_, by show (s.l.eraseP _).length ≤ 8; omega, by simp [h.bl], fun y hy => ?_, fun y m hy hm => ?_, fun y hy => ?_, h.nx0, by have := h.nxk; show s.nx ≤ 2 + ((k + 1 : Nat) : Int); omega⟩
  · simp at hc
    show (s.l.eraseP _).length = _
    omega
  · obtain ⟨i, d1, d2⟩ := h.dir y hy
    exact ⟨i, (look_erase_ne (pt_dn x y j).symm).trans d1, d2⟩
  · rw [List.getElem?_set]
    by_cases e : x * 4 + j = y * 4 + m
    · have e1 : x = y := by omega
      have e2 : j = m := by omega
      subst e1 e2
      rw [if_pos rfl, if_pos (by rw [h.bl]; omega), show look (s.l.eraseP (is (pt x j))) (pt x j) = none from look_erase_self h.ok _]
      rfl
    · rw [if_neg e, h.at_ y m hy hm, show look (s.l.eraseP (is (pt x j))) (pt y m) = look s.l (pt y m) from look_erase_ne (fun e2 => e (pt_inj hx hy hj hm e2.symm))]
  · have := cx_set (v := false) hx hy hj h.bl hb
    have hm := many_erase (q := dn y) hi
    rw [h.many y hy, h2] at hm
    show manyL (s.l.eraseP _) (dn y) = _
    by_cases e : x = y
    · subst e; simp at this hm ⊢; omega
    · have hne : ¬ dn x = dn y := fun e2 => e (dn_inj hx hy e2)
      simp [e] at this; simp [hne] at hm; omega
end
end Go.Proofs.Ytckoapfmfpmdgaa

namespace Go.Proofs.Ytckoapfmfpmdgaa
open Go.ChangeShapes Go.WideShapes Go.ChangeAt Go.RowKit Go.Joins
set_option linter.unusedVariables false
set_option linter.unusedSimpArgs false

end Go.Proofs.Ytckoapfmfpmdgaa

namespace Go.Proofs.Ytckoapfmfpmdgaa
open Go.ChangeShapes Go.WideShapes Go.ChangeAt Go.RowKit Go.Joins
set_option linter.unusedVariables false
set_option linter.unusedSimpArgs false

section
variable {T : TP} (C : TreeC T) {W w : World} {v : Value}
include C
end
end Go.Proofs.Ytckoapfmfpmdgaa

namespace Go.Proofs.Ytckoapfmfpmdgaa
open Go.ChangeShapes Go.WideShapes Go.ChangeAt Go.RowKit Go.Joins
set_option linter.unusedVariables false
set_option linter.unusedSimpArgs false

def ea : List Ent := [([97], false)]
section
variable {T : FP} (C : FilesC T)
include C
end
end Go.Proofs.Ytckoapfmfpmdgaa

namespace Go.Proofs.Ytckoapfmfpmdgaa
open Go.ChangeShapes Go.WideShapes Go.ChangeAt Go.RowKit Go.Joins
set_option linter.unusedVariables false
set_option linter.unusedSimpArgs false

def tb : St := ⟨[⟨[98], false, 1⟩], 2⟩
section
variable {b : List UInt8} (h1 : b ≠ []) (h8 : b.length ≤ 8)
include h1 h8 in
include h1 h8 in
end
end Go.Proofs.Ytckoapfmfpmdgaa

namespace Go.Proofs.Ytckoapfmfpmdgaa
open Go.ChangeShapes Go.WideShapes Go.ChangeAt Go.RowKit Go.Joins
set_option linter.unusedVariables false
set_option linter.unusedSimpArgs false

section
variable {T : FP} (C : FilesC T)
include C
end
end Go.Proofs.Ytckoapfmfpmdgaa

namespace Go.Proofs.Ytckoapfmfpmdgaa
open Go.ChangeShapes Go.WideShapes Go.ChangeAt Go.RowKit Go.Joins
set_option linter.unusedVariables false

section
variable {H : Type} {enc : TypeId × Value → H} {W : World}
/-- Bytes that lie: as numbers, with what is said of nil. -/
def BytsN (W : World) (v : Value) : Prop := ∃ (A : Option Addr) (l : List Nat) (cap : Nat), v = .slice A l.length cap ∧ l.length ≤ cap ∧ cap ≤ 9223372036854775807 ∧ (A = none → cap = 0) ∧ ByIn W A l
def BtZ (W : World) (v : Value) (l : List UInt8) : Prop := BtA W v l ∧ ∀ n c, v = .slice none n c → n = 0 ∧ c = 0
set_option maxRecDepth 100000 in
theorem bytsn_trod {n : Nat} {v : Value} {x : DataW H × List MemPlace} (hf : DataW.trod enc Try.prog W 0 (fun _ => true) true n 52 [v] = some x) : BytsN W v := by
  obtain ⟨A, l, cap, e, h1, h2, h0, h3⟩ := slice_open (fun (z : Nat) cs => cs = [.int .u8 (z : Int)] ∧ z ≤ 255) Try.underlying52 cellsByte (by decide) (fun n cs x hx => by
    obtain ⟨z, e, _, w⟩ := DataW.trod_int Try.underlying5 hx
    have := bounds_u8 w
    exact ⟨by rw [e]; rfl, z.toNat, by rw [e]; congr 2; omega, by omega⟩) (v := v) hf
  refine ⟨A, l, cap, e, h1, h2, h0, fun i z hz => ?_⟩
  obtain ⟨cs, ⟨rfl, hz255⟩, _, g, off, hA, hg, hc⟩ := h3 i z hz
  have := hc 0 _ rfl
  rw [Nat.mul_one, Nat.add_zero] at this
  exact ⟨g, off, hA, hg, this, hz255⟩
set_option maxRecDepth 100000 in
theorem BytsN.bta {v : Value} (h : BytsN W v) : ∃ l, BtZ W v l := by
  obtain ⟨A, l, cap, rfl, h1, h2, h0, h3⟩ := h
  refine ⟨l.map UInt8.ofNat, ⟨A, cap, by rw [List.length_map], by rw [List.length_map]; exact h1, h2, fun j c hc => ?_⟩, fun n c e => ?_⟩
  · rw [List.getElem?_map] at hc
    cases hz : l[j]? with
    | none => rw [hz] at hc; cases hc
    | some z =>
      rw [hz] at hc
      cases hc
      obtain ⟨g, off, hA, _, hw, h255⟩ := h3 j z hz
      refine ⟨g, off, hA, ?_⟩
      have : (UInt8.ofNat z).toNat = z := by simp; omega
      rw [this]
      exact hw
  · injection e with e1 e2 e3
    have hc0 := h0 e1
    omega
/-- Rows of bytes that lie. -/
def DatsN (W : World) (v : Value) : Prop := ∃ (A : Option Addr) (L : List (List UInt8)) (cap : Nat), v = .slice A L.length cap ∧ L.length ≤ cap ∧ cap ≤ 9223372036854775807 ∧ ∀ (i : Nat) (l : List UInt8), L[i]? = some l → ∃ g off y, A = some ⟨g, off, none⟩ ∧ g < W.heap.size ∧ W.cell? ⟨g, off + i, none⟩ = some y ∧ BtZ W y l
theorem cellsBytes : Try.prog.cellsOf 52 = 1 := by kernel_rfl
set_option maxRecDepth 100000 in
theorem datsn_open {base : Nat} {v : Value} {d : DataW H} {p : List MemPlace} (hok : Value.okWide Try.prog W .any base 64 v) (h : DataW.Trod enc Try.prog W 0 (fun _ => true) true 64 v d p) : DatsN W v := by
  obtain ⟨a0, len0, cap0, rfl⟩ := okWide_slice Try.underlying64 hok
  obtain ⟨fuel, hf⟩ := h
  obtain ⟨A, l, cap, e, h1, h2, _, h3⟩ := slice_open (W := W) (fun (z : List UInt8) cs => ∃ y, cs = [y] ∧ BtZ W y z) Try.underlying64 cellsBytes (by decide) (fun n cs x hx => by
    obtain ⟨y, rfl⟩ : ∃ y, cs = [y] := by
      rcases Deep.open_slice Try.underlying52 hx with ⟨e, _⟩ | ⟨_, _, _, _, _, _, _, e, _⟩
      · exact ⟨_, e⟩
      · exact ⟨_, e⟩
    obtain ⟨z, hz⟩ := (bytsn_trod hx).bta
    exact ⟨rfl, z, y, rfl, hz⟩) (v := .slice a0 len0 cap0) hf
  refine ⟨A, l, cap, e, h1, h2, fun i z hz => ?_⟩
  obtain ⟨cs, ⟨y, rfl, hy⟩, _, g, off, hA, hg, hc⟩ := h3 i z hz
  have := hc 0 _ rfl
  rw [Nat.mul_one, Nat.add_zero] at this
  exact ⟨g, off, y, hA, hg, this, hy⟩
/-- A call as the law's Deed says it. -/
structure Fdd where
  k : Int
  fd : Nat
  n : Nat
  b : List UInt8
  p : ByteArray
  q : ByteArray
def FddAt (W : World) (v : Value) (ds : List Fdd) : Prop := ∃ A cap, v = .slice A ds.length cap ∧ ds.length ≤ cap ∧ cap ≤ 9223372036854775807 ∧ ∀ (i : Nat) z, ds[i]? = some z → ∃ g off y, A = some ⟨g, off, none⟩ ∧ g < W.heap.size ∧
  W.cell? ⟨g, off + i * 6, none⟩ = some (.int .i64 z.k) ∧ W.cell? ⟨g, off + i * 6 + 1, none⟩ = some (.int .u16 (z.fd : Int)) ∧ W.cell? ⟨g, off + i * 6 + 2, none⟩ = some (.int .u16 (z.n : Int)) ∧ W.cell? ⟨g, off + i * 6 + 3, none⟩ = some y ∧ BtZ W y z.b ∧
  W.cell? ⟨g, off + i * 6 + 4, none⟩ = some (.string z.p) ∧ W.cell? ⟨g, off + i * 6 + 5, none⟩ = some (.string z.q) ∧ z.fd ≤ 65535 ∧ z.n ≤ 65535
def FddsN (W : World) (v : Value) : Prop := ∃ ds, FddAt W v ds
theorem trod6 {t : TypeId} {f0 f1 f2 f3 f4 f5 : Field} {fuel : Nat} {cs : List Value} {x : DataW H × List MemPlace} (ht : Try.prog.underlying t = some (.struct #[f0, f1, f2, f3, f4, f5])) (h : DataW.trod enc Try.prog W 0 (fun _ => true) true fuel t cs = some x) :
    cs.length = Try.prog.cellsOf t ∧ ∃ n, ∀ (i : Nat) f, [f0, f1, f2, f3, f4, f5][i]? = some f → ∃ y, DataW.trod enc Try.prog W 0 (fun _ => true) true n f.type ((cs.drop f.offset).take (Try.prog.cellsOf f.type)) = some y := by
  obtain ⟨xs, n, _, _, hl, hlen, hf⟩ := DataW.trod_struct ht h
  refine ⟨hl, n, fun i f hi => ?_⟩
  match xs, hlen with
  | [y0, y1, y2, y3, y4, y5], _ =>
    match i, hi with
    | 0, hi => cases hi; exact ⟨y0, by simpa using hf 0 f0 rfl⟩
    | 1, hi => cases hi; exact ⟨y1, by simpa using hf 1 f1 rfl⟩
    | 2, hi => cases hi; exact ⟨y2, by simpa using hf 2 f2 rfl⟩
    | 3, hi => cases hi; exact ⟨y3, by simpa using hf 3 f3 rfl⟩
    | 4, hi => cases hi; exact ⟨y4, by simpa using hf 4 f4 rfl⟩
    | 5, hi => cases hi; exact ⟨y5, by simpa using hf 5 f5 rfl⟩
    | i + 6, hi => simp at hi
theorem u16_nat {c : Value} {n : Nat} {x : DataW H × List MemPlace} (h : DataW.trod enc Try.prog W 0 (fun _ => true) true n 46 [c] = some x) : ∃ z : Nat, c = .int .u16 (z : Int) ∧ z ≤ 65535 := by
  obtain ⟨z, e, _, w⟩ := DataW.trod_int Try.underlying46 h
  have := bounds_u16 w
  refine ⟨z.toNat, ?_, by omega⟩
  simp at e
  rw [e]
  congr 1
  omega
theorem cellsDeed14 : Try.prog.cellsOf 75 = 6 := by kernel_rfl
set_option maxRecDepth 100000 in
theorem fdds_open {base : Nat} {v : Value} {d : DataW H} {p : List MemPlace} (hok : Value.okWide Try.prog W .any base 65 v) (h : DataW.Trod enc Try.prog W 0 (fun _ => true) true 65 v d p) : FddsN W v := by
  obtain ⟨a0, len0, cap0, rfl⟩ := okWide_slice Try.underlying65 hok
  obtain ⟨fuel, hf⟩ := h
  obtain ⟨A, l, cap, e, h1, h2, _, h3⟩ := slice_open (W := W) (fun (z : Fdd) cs => z.fd ≤ 65535 ∧ z.n ≤ 65535 ∧ ∃ y, BtZ W y z.b ∧ cs = [.int .i64 z.k, .int .u16 (z.fd : Int), .int .u16 (z.n : Int), y, .string z.p, .string z.q]) Try.underlying65 cellsDeed14 (by decide) (fun n cs x hx => by
    obtain ⟨hlen, m, hfs⟩ := trod6 Try.underlying75 hx
    rw [cellsDeed14] at hlen
    match cs, hlen with
    | [c0, c1, c2, c3, c4, c5], _ =>
      obtain ⟨y0, f0⟩ := hfs 0 _ rfl
      obtain ⟨y1, f1⟩ := hfs 1 _ rfl
      obtain ⟨y2, f2⟩ := hfs 2 _ rfl
      obtain ⟨y3, f3⟩ := hfs 3 _ rfl
      obtain ⟨y4, f4⟩ := hfs 4 _ rfl
      obtain ⟨y5, f5⟩ := hfs 5 _ rfl
      have g0 : DataW.trod enc Try.prog W 0 (fun _ => true) true m 3 (([c0, c1, c2, c3, c4, c5].drop 0).take (Try.prog.cellsOf 3)) = some y0 := f0
      have g1 : DataW.trod enc Try.prog W 0 (fun _ => true) true m 46 (([c0, c1, c2, c3, c4, c5].drop 1).take (Try.prog.cellsOf 46)) = some y1 := f1
      have g2 : DataW.trod enc Try.prog W 0 (fun _ => true) true m 46 (([c0, c1, c2, c3, c4, c5].drop 2).take (Try.prog.cellsOf 46)) = some y2 := f2
      have g3 : DataW.trod enc Try.prog W 0 (fun _ => true) true m 52 (([c0, c1, c2, c3, c4, c5].drop 3).take (Try.prog.cellsOf 52)) = some y3 := f3
      have g4 : DataW.trod enc Try.prog W 0 (fun _ => true) true m 9 (([c0, c1, c2, c3, c4, c5].drop 4).take (Try.prog.cellsOf 9)) = some y4 := f4
      have g5 : DataW.trod enc Try.prog W 0 (fun _ => true) true m 9 (([c0, c1, c2, c3, c4, c5].drop 5).take (Try.prog.cellsOf 9)) = some y5 := f5
      rw [show Try.prog.cellsOf 3 = 1 by kernel_rfl] at g0
      rw [show Try.prog.cellsOf 46 = 1 by kernel_rfl] at g1 g2
      rw [cellsBytes] at g3
      rw [show Try.prog.cellsOf 9 = 1 by kernel_rfl] at g4 g5
      obtain ⟨z0, e0, _, _⟩ := DataW.trod_int Try.underlying3 g0
      obtain ⟨z1, e1, b1⟩ := u16_nat (c := c1) g1
      obtain ⟨z2, e2, b2⟩ := u16_nat (c := c2) g2
      obtain ⟨z3, e3⟩ := (bytsn_trod (v := c3) g3).bta
      obtain ⟨z4, e4, _⟩ := DataW.trod_string Try.underlying9 g4
      obtain ⟨z5, e5, _⟩ := DataW.trod_string Try.underlying9 g5
      simp at e0 e4 e5
      subst e0 e1 e2 e4 e5
      exact ⟨rfl, ⟨z0, z1, z2, z3, z4, z5⟩, b1, b2, c3, e3, rfl⟩) (v := .slice a0 len0 cap0) hf
  refine ⟨l, A, cap, e, h1, h2, fun i z hz => ?_⟩
  obtain ⟨cs, ⟨b1, b2, y, hy, rfl⟩, _, g, off, hA, hg, hc⟩ := h3 i z hz
  exact ⟨g, off, y, hA, hg, hc 0 _ rfl, hc 1 _ rfl, hc 2 _ rfl, hc 3 _ rfl, hy, hc 4 _ rfl, hc 5 _ rfl, b1, b2⟩
end
end Go.Proofs.Ytckoapfmfpmdgaa
