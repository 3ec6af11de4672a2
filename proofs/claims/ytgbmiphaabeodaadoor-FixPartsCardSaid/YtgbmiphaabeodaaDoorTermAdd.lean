/-
  add of package term: the node that is there is answered, or one is put behind the others, with its ids, and is found again.
-/
import Derived.Test.YtgbmiphaabeodaaDoorTermA
import Derived.StillTailTactics
import Derived.Deep.DeepCutAuto
import Derived.Deep.RegionLaw
namespace Go.Proofs.YtgbmiphaabeodaaDoor
open Go.ChangeShapes Go.WideShapes Go.ChangeAt Go.RowKit
set_option linter.unusedVariables false
attribute [local go_sem ↓] Go.wp_at_zero Go.wp_at_succ

theorem at_snoc {ns : List Nd} {n m : Nd} {i : Nat} (h : (ns ++ [n])[i]? = some m) : ns[i]? = some m ∨ (i = ns.length ∧ m = n) := by
  by_cases hl : i < ns.length
  · rw [List.getElem?_append_left hl] at h; exact .inl h
  · rw [List.getElem?_append_right (by omega)] at h
    have := (List.getElem?_eq_some_iff.1 h).1
    simp at this
    have e : i = ns.length := by omega
    subst e
    simp at h
    exact .inr ⟨rfl, h.symm⟩
theorem snoc_at {ns : List Nd} {n m : Nd} {i : Nat} (h : ns[i]? = some m) : (ns ++ [n])[i]? = some m := by
  rw [List.getElem?_append_left (List.getElem?_eq_some_iff.1 h).1]; exact h
theorem map_snoc {D : DataW Unit} {ns : List Nd} {n : Nd} (hM : Maps.IsMap D) (h : MapIs D ns) (hf : Fits n) (hn : ∀ i : Nat, ns[i]? ≠ some n) : MapIs (D.put n.kl (.lit (.int .i64 ((ns.length : Int) + 1)))) (ns ++ [n]) := by
  intro m hm
  by_cases e : m = n
  · subst e
    refine ⟨fun i hi => ?_, fun hno => absurd (show (ns ++ [m])[ns.length]? = some m by simp) (hno _)⟩
    rcases at_snoc hi with hi | ⟨rfl, _⟩
    · exact absurd hi (hn i)
    · exact ⟨Maps.has_put_same hM (kl_key m hf) _, fun z => Maps.atKey_put_same hM (kl_key m hf) _ z⟩
  · have ek : m.kl ≠ n.kl := fun h' => e (kl_inj hm hf h')
    obtain ⟨h1, h2⟩ := h m hm
    refine ⟨fun i hi => ?_, fun hno => ?_⟩
    · rcases at_snoc hi with hi | ⟨_, rfl⟩
      · obtain ⟨a, b⟩ := h1 i hi
        exact ⟨by rw [Maps.has_put_other ek]; exact a, fun z => (Maps.atKey_put_other ek _ z).trans (b z)⟩
      · exact absurd rfl e
    · obtain ⟨a, b⟩ := h2 (fun i hi => hno i (snoc_at hi))
      exact ⟨by rw [Maps.has_put_other ek]; exact a, fun z => (Maps.atKey_put_other ek _ z).trans (b z)⟩
theorem map_nil : MapIs (.map [] : DataW Unit) [] := fun n _ => ⟨fun i hi => by simp at hi, fun _ => ⟨rfl, fun z => rfl⟩⟩
theorem nodeCells_snoc (ns : List Nd) (n : Nd) : nodeCells (ns ++ [n]) = nodeCells ns ++ n.v := by simp [nodeCells]
theorem idCells_snoc {ns : List Nd} {n : Nd} (h : WF ns) (hn : NW ns n) : idCells (ns ++ [n]) = idCells ns ++ [Value.int .u64 ((niv (Iv ns) n : Nat) : Int)] := by
  have hw := h.snoc hn
  unfold idCells
  rw [List.length_append, List.length_singleton, List.range_succ, List.map_append]
  congr 1
  · refine List.map_congr_left fun i hi => ?_
    have : i < ns.length := by simpa using hi
    rw [Iv_append hw (by omega)]
  · simp only [List.map_cons, List.map_nil]
    rw [Iv_last h hn]
theorem once_snoc {ns : List Nd} {n : Nd} (h : ∀ (i j : Nat) (m : Nd), ns[i]? = some m → ns[j]? = some m → i = j) (hn : ∀ i : Nat, ns[i]? ≠ some n) : ∀ (i j : Nat) (m : Nd), (ns ++ [n])[i]? = some m → (ns ++ [n])[j]? = some m → i = j := by
  intro i j m hi hj
  rcases at_snoc hi with hi | ⟨rfl, rfl⟩ <;> rcases at_snoc hj with hj | ⟨rfl, e⟩
  · exact h i j m hi hj
  · exact absurd (e ▸ hi) (hn i)
  · exact absurd hj (hn j)
  · rfl
theorem arr0 (a b c u : Value) (vs : List Int) : (arr a b c vs).setIfInBounds 0 u = arr u b c vs := by simp [arr]
theorem arr1 (a b c u : Value) (vs : List Int) : (arr a b c vs).setIfInBounds 1 u = arr a u c vs := by simp [arr]
theorem arr2 (a b c u : Value) (vs : List Int) : (arr a b c vs).setIfInBounds 2 u = arr a b u vs := by simp [arr]

def AddPost (w : World) (ab : Nat) (ns : List Nd) (foot : Nat → Prop) (vs : List Int) (n : Nd) (x : Int) (w' : World) : Prop :=
  ∃ ns' foot' nv iv mv, ArAt w' ab ns' foot' nv iv mv vs ∧ Kept foot w w' ∧ (∀ k, foot' k → foot k ∨ w.heap.size ≤ k) ∧ nd ns' x = some n ∧ (ns' = ns ∨ (ns' = ns ++ [n] ∧ ∀ i : Nat, ns[i]? ≠ some n))
theorem zeroT (w : World) : (zeroValue 33).run Tryd.prog w = .ok (.int .i64 0) w := by kernel_rfl
set_option maxRecDepth 100000 in
theorem add_found (w : World) (ab : Nat) (ns : List Nd) (foot : Nat → Prop) (nv iv mv : Value) (vs : List Int) (n : Nd) (i : Nat) (h : ArAt w ab ns foot nv iv mv vs) (hi : ns[i]? = some n) :
    Calls Tryd.prog 36 #[ptr ab, n.ag] w fun e w' => e = .returned (.tuple #[.int .i64 ((i : Int) + 1), .int .i64 0]) ∧ AddPost w ab ns foot vs n ((i : Int) + 1) w' := by
  have hf : Fits n := (h.wf.at_ hi).fits h.sz
  have c2 : w.cell? ⟨ab, 2, none⟩ = some mv := h.blk.cell 2
  have hlt := h.blk.lt
  rcases h.found with ⟨_, rfl⟩ | ⟨b, D, rfl, hfb, ho, hM⟩
  · simp at hi
  have hlook : Hid (∀ k, (Instr.lookup 58 (.map (some b)) (.agg #[.int .i64 n.op, .int .i64 n.w, .int .u16 n.val, .int .i64 n.a, .int .i64 n.b, .int .i64 n.c]) true).run Tryd.prog ((w.alloc (.cells #[.int .i64 n.op, .int .i64 n.w, .int .u16 n.val, .int .i64 n.a, .int .i64 n.b, .int .i64 n.c] 85)).drewN k) = .ok (.tuple #[.int .i64 ((i : Int) + 1), .bool true]) ((w.alloc (.cells #[.int .i64 n.op, .int .i64 n.w, .int .u16 n.val, .int .i64 n.a, .int .i64 n.b, .int .i64 n.c] 85)).drewN k)) := by
    intro k
    have ho' : ((w.alloc (.cells #[.int .i64 n.op, .int .i64 n.w, .int .u16 n.val, .int .i64 n.a, .int .i64 n.b, .int .i64 n.c] 85)).drewN k).ownsMap Tryd.prog 85 (plainElem Tryd.prog 33) b ns.length D := ownsMap_same ho (alloc_other ho.lt)
    obtain ⟨v, ps, hrun, hv⟩ := ho'.look_ok keyedNode Tryd.underlying58 (zeroT _) (plainElem_int (H := Unit) Tryd.underlying33 (a := 0) (by decide)) (key_of n hf)
    obtain ⟨hh, hz⟩ := (hM n hf).1 i hi
    obtain ⟨z, rfl, hz1, _⟩ := plainElem_int_inv Tryd.underlying33 hv
    have hzv : z = (i : Int) + 1 := by
      have := congrArg Prod.fst hz1
      simp only [hz] at this
      injection this with this
      injection this with _ this
      exact this.symm
    rw [hrun, hh, hzv]
  have H := Lib.hid h
  have HI := Lib.hid hi
  clear h hi hf ho hM hfb
  have hlk := hlook.out
  go_enter Tryd.func36, Tryd.ntmps36
  go_wp2
  go_quiet (fail)
  go_wp2
  go_ret2
  refine ⟨rfl, ns, foot, nv, iv, .map (some b), H.out.keep (fun k hk => alloc_other (H.out.lt k hk)) (by simp), ?_, fun k hk => .inl hk, nd_cast HI.out, .inl rfl⟩
  exact (((Kept.refl _ _).alloc _).drewN _)

/-! ### A new node -/
theorem info76 : (Tryd.prog.info? 85).map (fun i => (i.zero, i.size, i.bytes)) = some (some (.agg #[.int .i64 0, .int .i64 0, .int .u16 0, .int .i64 0, .int .i64 0, .int .i64 0]), 6, 48) := by kernel_rfl
theorem info84 : (Tryd.prog.info? 69).map (fun i => (i.zero, i.size, i.bytes)) = some (some (.int .u64 0), 1, 8) := by kernel_rfl
theorem row_alike {w w' : World} {base : Nat} {e : TypeId} {size n : Nat} {v : Value} {xs : List Value} (h : w.ownsRow base e size v n xs) (he : w'.heap = w.heap) : w'.ownsRow base e size v n xs := row_same h fun g _ => by rw [he]
theorem new_at {W W' : World} {o : Obj} {g : Nat} (hg : W.heap.size = g) (he : W'.heap = (W.alloc o).heap) : W'.heap[g]? = some o := by rw [he, ← hg]; exact heap_alloc_new W o
theorem Has.grown {W W' w1 : World} {g : Nat} {t : TypeId} {cs : Array Value} {o : Obj} {row : Option Nat} (h : Has W g t cs) (hg : W'.grownBy w1 row) (he : W'.heap = (W.alloc o).heap) (hne : some g ≠ row) : Has w1 g t cs :=
  h.same ((hg.block g (by rw [he]; simp; have := h.lt; omega) hne).trans (by rw [he]; exact alloc_other h.lt))
/-- An arena to which a node is to be added; the node in a box of its own. -/
structure Mid (w W : World) (foot : Nat → Prop) (ab box : Nat) (n : Nd) (nn ni nm : Nat) (xs ys : List Value) (nv iv : Value) (mb : Nat) (vs : List Int) (D : DataW Unit) : Prop where
  blk : Has W ab 61 (arr nv iv (.map (some mb)) vs)
  bx : Has W box 85 #[.int .i64 n.op, .int .i64 n.w, .int .u16 n.val, .int .i64 n.a, .int .i64 n.b, .int .i64 n.c]
  nrow : W.ownsRow 0 85 6 nv nn xs
  irow : W.ownsRow 0 69 1 iv ni ys
  own : W.ownsMap Tryd.prog 85 (plainElem Tryd.prog 33) mb nm D
  nb : nv.ownBlock ≠ some box
  kept : Kept foot w W
  fn : ∀ g, nv.ownBlock = some g → foot g ∨ w.heap.size ≤ g
  fi : ∀ g, iv.ownBlock = some g → foot g ∨ w.heap.size ≤ g
  fm : foot mb ∨ w.heap.size ≤ mb
  fab : foot ab
section
variable {w W W' w1 Wf : World} {foot : Nat → Prop} {ab box : Nat} {n : Nd} {nn ni nm : Nat} {xs ys zs : List Value} {nv iv : Value} {mb : Nat} {vs : List Int} {D : DataW Unit}
theorem not_map {b : Nat} {t : TypeId} {cs : Array Value} {k : TypeId} {R : Value → Option (DataW Unit × List MemPlace)} {m : Nat} (h : W.ownsMap Tryd.prog k R mb m D) (hc : Has W b t cs) : mb ≠ b := by
  rintro rfl
  obtain ⟨es, clock, hb, _⟩ := h
  unfold Has at hc; rw [hc] at hb; cases hb
theorem not_row {base : Nat} {e : TypeId} {size m : Nat} {v : Value} (h : W.ownsRow base e size v m xs) {g : Nat} {t : TypeId} {cs : Array Value} (hc : Has W g t cs) (hne : e ≠ t) : v.ownBlock ≠ some g := fun he => by
  obtain ⟨cur, hr⟩ := row_block h he
  exact hr.unlike hc hne rfl
theorem Mid.same (M : Mid w W foot ab box n nn ni nm xs ys nv iv mb vs D) (k : ∀ b, b < W.heap.size → W'.heap[b]? = W.heap[b]?) (hk : Kept foot w W') : Mid w W' foot ab box n nn ni nm xs ys nv iv mb vs D :=
  ⟨M.blk.same (k _ M.blk.lt), M.bx.same (k _ M.bx.lt), row_same M.nrow (fun g hg => by obtain ⟨cur, hr⟩ := row_block M.nrow hg; exact k _ hr.lt), row_same M.irow (fun g hg => by obtain ⟨cur, hr⟩ := row_block M.irow hg; exact k _ hr.lt), ownsMap_same M.own (k _ M.own.lt), M.nb, hk, M.fn, M.fi, M.fm, M.fab⟩
theorem Mid.below (M : Mid w W foot ab box n nn ni nm xs ys nv iv mb vs D) (k : Below W.heap.size W W') : Mid w W' foot ab box n nn ni nm xs ys nv iv mb vs D :=
  M.same k.block (M.kept.trans (Kept.of_below (S := no) k) (fun _ _ h => h.elim))
theorem Mid.alike (M : Mid w W foot ab box n nn ni nm xs ys nv iv mb vs D) (he : W'.heap = W.heap) (h1 : W'.os = W.os) (h2 : W'.tape = W.tape) (h3 : W'.output = W.output) : Mid w W' foot ab box n nn ni nm xs ys nv iv mb vs D :=
  M.below ⟨h1, h2, h3, by rw [he]; exact Nat.le_refl _, fun k _ => by rw [he]⟩
theorem Mid.alloc (M : Mid w W foot ab box n nn ni nm xs ys nv iv mb vs D) (o : Obj) : Mid w (W.alloc o) foot ab box n nn ni nm xs ys nv iv mb vs D := M.below ((Below.refl _ _).alloc (Nat.le_refl _) _)
/-- Behind an append to the row of nodes. -/
theorem Mid.nodes (M : Mid w W foot ab box n nn ni nm xs ys nv iv mb vs D) {g cap m H : Nat} (hg : W.grownBy w1 nv.ownBlock) (hown : w1.ownsRow 0 85 6 (.slice (some ⟨g, 0, none⟩) m cap) m zs) (hat : nv.ownBlock = some g ∨ g = H) (hH : w.heap.size ≤ H) (hb : box < H) :
    Mid w (w1.setCell ⟨ab, 0, none⟩ (.slice (some ⟨g, 0, none⟩) m cap)) foot ab box n m ni nm zs ys (.slice (some ⟨g, 0, none⟩) m cap) iv mb vs D := by
  have b1 : Has w1 ab 61 (arr nv iv (.map (some mb)) vs) := M.blk.same (hg.block _ M.blk.lt (fun e => not_row M.nrow M.blk (by decide) e.symm))
  have far : ∀ b, b ≠ ab → (w1.setCell ⟨ab, 0, none⟩ (.slice (some ⟨g, 0, none⟩) m cap)).heap[b]? = w1.heap[b]? := fun b hb => set_other (p := ⟨ab, 0, none⟩) hb
  have o1 := ownsMap_same M.own (hg.block _ M.own.lt (fun e => by obtain ⟨cur, hr⟩ := row_block M.nrow e.symm; exact not_map M.own hr rfl))
  have i1 : w1.ownsRow 0 69 1 iv ni ys := row_same M.irow (fun g' hg' => by
    obtain ⟨cur, hr⟩ := row_block M.irow hg'
    exact hg.block _ hr.lt (fun e => not_row M.nrow hr (by decide) e.symm))
  refine ⟨?_, ?_, row_same hown (fun g' hg' => far _ ?_), row_same i1 (fun g' hg' => far _ ?_), ownsMap_same o1 (far _ (not_map o1 b1)), ?_, ?_, ?_, M.fi, M.fm, M.fab⟩
  · have := b1.put 0 (.slice (some ⟨g, 0, none⟩) m cap); rwa [arr0] at this
  · refine (M.bx.same (hg.block _ M.bx.lt (fun e => M.nb e.symm))).same (far _ ?_)
    exact (M.bx.unlike M.blk (by decide))
  · obtain ⟨cur, hr⟩ := row_block hown hg'
    exact hr.unlike b1 (by decide)
  · obtain ⟨cur, hr⟩ := row_block i1 hg'
    exact hr.unlike b1 (by decide)
  · intro e
    have : g = box := by simpa [Value.ownBlock] using e
    subst this
    rcases hat with e | e
    · exact M.nb e
    · omega
  · refine (M.kept.trans (Kept.of_grown (S := fun k => nv.ownBlock = some k) hg (fun k e => e)) (fun b hb e => ?_)).setCell (p := ⟨ab, 0, none⟩) (fun _ => M.fab) _
    rcases M.fn b e with h | h
    · exact h
    · omega
  · intro g' e
    have : g = g' := by simpa [Value.ownBlock] using e
    subst this
    rcases hat with e | e
    · exact M.fn g e
    · exact .inr (by omega)
/-- Behind an append to the row of ids. -/
theorem Mid.ids (M : Mid w W foot ab box n nn ni nm xs ys nv iv mb vs D) {g cap m H : Nat} (hg : W.grownBy w1 iv.ownBlock) (hown : w1.ownsRow 0 69 1 (.slice (some ⟨g, 0, none⟩) m cap) m zs) (hat : iv.ownBlock = some g ∨ g = H) (hH : w.heap.size ≤ H) :
    Mid w (w1.setCell ⟨ab, 1, none⟩ (.slice (some ⟨g, 0, none⟩) m cap)) foot ab box n nn m nm xs zs nv (.slice (some ⟨g, 0, none⟩) m cap) mb vs D := by
  have b1 : Has w1 ab 61 (arr nv iv (.map (some mb)) vs) := M.blk.same (hg.block _ M.blk.lt (fun e => not_row M.irow M.blk (by decide) e.symm))
  have far : ∀ b, b ≠ ab → (w1.setCell ⟨ab, 1, none⟩ (.slice (some ⟨g, 0, none⟩) m cap)).heap[b]? = w1.heap[b]? := fun b hb => set_other (p := ⟨ab, 1, none⟩) hb
  have o1 := ownsMap_same M.own (hg.block _ M.own.lt (fun e => by obtain ⟨cur, hr⟩ := row_block M.irow e.symm; exact not_map M.own hr rfl))
  have n1 : w1.ownsRow 0 85 6 nv nn xs := row_same M.nrow (fun g' hg' => by
    obtain ⟨cur, hr⟩ := row_block M.nrow hg'
    exact hg.block _ hr.lt (fun e => not_row M.irow hr (by decide) e.symm))
  refine ⟨?_, ?_, row_same n1 (fun g' hg' => far _ ?_), row_same hown (fun g' hg' => far _ ?_), ownsMap_same o1 (far _ (not_map o1 b1)), M.nb, ?_, M.fn, ?_, M.fm, M.fab⟩
  · have := b1.put 1 (.slice (some ⟨g, 0, none⟩) m cap); rwa [arr1] at this
  · refine (M.bx.same (hg.block _ M.bx.lt (fun e => not_row M.irow M.bx (by decide) e.symm))).same (far _ ?_)
    exact (M.bx.unlike M.blk (by decide))
  · obtain ⟨cur, hr⟩ := row_block n1 hg'
    exact hr.unlike b1 (by decide)
  · obtain ⟨cur, hr⟩ := row_block hown hg'
    exact hr.unlike b1 (by decide)
  · refine (M.kept.trans (Kept.of_grown (S := fun k => iv.ownBlock = some k) hg (fun k e => e)) (fun b hb e => ?_)).setCell (p := ⟨ab, 1, none⟩) (fun _ => M.fab) _
    rcases M.fi b e with h | h
    · exact h
    · omega
  · intro g' e
    have : g = g' := by simpa [Value.ownBlock] using e
    subst this
    rcases hat with e | e
    · exact M.fi g e
    · exact .inr (by omega)
end
/-! ### The walk of add -/
theorem Mid.done {w W w5 : World} {foot : Nat → Prop} {ab : Nat} {n : Nd} {ns : List Nd} {nv iv : Value} {mb : Nat} {vs : List Int} {D : DataW Unit}
    (M : Mid w W foot ab w.heap.size n (ns.length + 1) (ns.length + 1) ns.length (nodeCells ns ++ n.v) (idCells ns ++ [.int .u64 ((niv (Iv ns) n : Nat) : Int)]) nv iv mb vs D)
    (hwf : WF ns) (hn : NW ns n) (hnrm : NormA (ns ++ [n])) (honce : ∀ (i j : Nat) (m : Nd), ns[i]? = some m → ns[j]? = some m → i = j) (hno : ∀ i : Nat, ns[i]? ≠ some n) (hl : ns.length < 65536) (hM : MapIs D ns) (hlt : ∀ k, foot k → k < w.heap.size)
    (hown : w5.ownsMap Tryd.prog 85 (plainElem Tryd.prog 33) mb (ns.length + 1) (D.put n.kl (.lit (.int .i64 ((ns.length : Int) + 1))))) (hg : W.grownBy w5 (some mb)) : AddPost w ab ns foot vs n ((ns.length : Int) + 1) w5 := by
  have hL : (ns ++ [n]).length = ns.length + 1 := by simp
  have ne_of : ∀ {g : Nat} {t : TypeId} {cs : Array Value}, Has W g t cs → some g ≠ some mb := fun hc e => by injection e with e; exact not_map M.own hc e.symm
  have b5 := M.blk.same (hg.block _ M.blk.lt (ne_of M.blk))
  have hs := hg.size
  refine ⟨ns ++ [n], fun k => (foot k ∨ w.heap.size ≤ k) ∧ k < w5.heap.size, nv, iv, .map (some mb), ⟨b5, ⟨.inl M.fab, b5.lt⟩, fun k hk => hk.2, ?_, ?_, ?_, ?_, .inr ⟨mb, _, rfl, ⟨M.fm, hown.lt⟩, by rw [hL]; exact hown, map_snoc M.own.isMap hM (hn.fits (by omega)) hno⟩, hwf.snoc hn, once_snoc honce hno, by rw [hL]; omega, hnrm⟩, ?_, fun k hk => hk.1, nd_cast (by simp), .inr ⟨rfl, hno⟩⟩
  · rw [hL, nodeCells_snoc]
    exact row_same M.nrow fun g hg' => by obtain ⟨cur, hr⟩ := row_block M.nrow hg'; exact hg.block _ hr.lt (ne_of hr)
  · rw [hL, idCells_snoc hwf hn]
    exact row_same M.irow fun g hg' => by obtain ⟨cur, hr⟩ := row_block M.irow hg'; exact hg.block _ hr.lt (ne_of hr)
  · intro g hg'
    obtain ⟨cur, hr⟩ := row_block M.nrow hg'
    exact ⟨M.fn g hg', Nat.lt_of_lt_of_le hr.lt hs⟩
  · intro g hg'
    obtain ⟨cur, hr⟩ := row_block M.irow hg'
    exact ⟨M.fi g hg', Nat.lt_of_lt_of_le hr.lt hs⟩
  · refine M.kept.trans (Kept.of_grown (S := fun k => k = mb) hg (fun k e => by injection e with e; exact e.symm)) (fun k hk e => ?_)
    subst e
    rcases M.fm with h | h
    · exact h
    · omega
def Cut8 (w W : World) (foot : Nat → Prop) (ab : Nat) (n : Nd) (ns : List Nd) (iv : Value) (mb : Nat) (vs : List Int) (D : DataW Unit) : Prop :=
  ∃ A cap, Mid w W foot ab w.heap.size n (ns.length + 1) ns.length ns.length (nodeCells ns ++ n.v) (idCells ns) (.slice A (ns.length + 1) cap) iv mb vs D
def Cut9 (w W : World) (foot : Nat → Prop) (ab : Nat) (n : Nd) (ns : List Nd) (mb : Nat) (vs : List Int) (D : DataW Unit) : Prop :=
  ∃ A cap A' cap', Mid w W foot ab w.heap.size n (ns.length + 1) (ns.length + 1) ns.length (nodeCells ns ++ n.v) (idCells ns ++ [.int .u64 ((niv (Iv ns) n : Nat) : Int)]) (.slice A (ns.length + 1) cap) (.slice A' (ns.length + 1) cap') mb vs D
set_option maxHeartbeats 1600000 in
set_option maxRecDepth 100000 in
theorem add_some (w : World) (ab : Nat) (ns : List Nd) (foot : Nat → Prop) (nv iv : Value) (b : Nat) (D : DataW Unit) (vs : List Int) (n : Nd) (h : ArAt w ab ns foot nv iv (.map (some b)) vs) (hfb : foot b)
    (ho : w.ownsMap Tryd.prog 85 (plainElem Tryd.prog 33) b ns.length D) (hM : MapIs D ns) (hn : NW ns n) (hnn : NormN ns n) (hno : ∀ i : Nat, ns[i]? ≠ some n) (hl : ns.length < 65536) :
    Calls Tryd.prog 36 #[ptr ab, n.ag] w fun e w' => e = .returned (.tuple #[.int .i64 ((ns.length : Int) + 1), .int .i64 0]) ∧ AddPost w ab ns foot vs n ((ns.length : Int) + 1) w' := by
  have hf : Fits n := hn.fits h.sz
  have c0 : w.cell? ⟨ab, 0, none⟩ = some nv := h.blk.cell 0
  have c2 : w.cell? ⟨ab, 2, none⟩ = some (.map (some b)) := h.blk.cell 2
  have hlt := h.blk.lt
  have hlook : Hid (∀ k, (Instr.lookup 58 (.map (some b)) (.agg #[.int .i64 n.op, .int .i64 n.w, .int .u16 n.val, .int .i64 n.a, .int .i64 n.b, .int .i64 n.c]) true).run Tryd.prog ((w.alloc (.cells #[.int .i64 n.op, .int .i64 n.w, .int .u16 n.val, .int .i64 n.a, .int .i64 n.b, .int .i64 n.c] 85)).drewN k) = .ok (.tuple #[.int .i64 0, .bool false]) ((w.alloc (.cells #[.int .i64 n.op, .int .i64 n.w, .int .u16 n.val, .int .i64 n.a, .int .i64 n.b, .int .i64 n.c] 85)).drewN k)) := by
    intro k
    have ho' : ((w.alloc (.cells #[.int .i64 n.op, .int .i64 n.w, .int .u16 n.val, .int .i64 n.a, .int .i64 n.b, .int .i64 n.c] 85)).drewN k).ownsMap Tryd.prog 85 (plainElem Tryd.prog 33) b ns.length D := ownsMap_same ho (alloc_other ho.lt)
    obtain ⟨v, ps, hrun, hv⟩ := ho'.look_ok keyedNode Tryd.underlying58 (zeroT _) (plainElem_int (H := Unit) Tryd.underlying33 (a := 0) (by decide)) (key_of n hf)
    obtain ⟨hh, hz⟩ := (hM n hf).2 hno
    obtain ⟨z, rfl, hz1, _⟩ := plainElem_int_inv Tryd.underlying33 hv
    have hzv : z = 0 := by
      have := congrArg Prod.fst hz1
      simp only [hz] at this
      injection this with this
      injection this with _ this
      exact this.symm
    rw [hrun, hh, hzv]
  have M : Mid w (w.alloc (.cells #[.int .i64 n.op, .int .i64 n.w, .int .u16 n.val, .int .i64 n.a, .int .i64 n.b, .int .i64 n.c] 85)) foot ab w.heap.size n ns.length ns.length ns.length (nodeCells ns) (idCells ns) nv iv b vs D :=
    ⟨h.blk.same (alloc_other h.blk.lt), Has.new w _ _, row_same h.nrow (fun g hg => alloc_other (h.lt g (h.fn g hg))), row_same h.irow (fun g hg => alloc_other (h.lt g (h.fi g hg))), ownsMap_same ho (alloc_other ho.lt), fun e => by have := h.lt _ (h.fn _ e); omega, (Kept.refl _ _).alloc _, fun g hg => .inl (h.fn g hg), fun g hg => .inl (h.fi g hg), .inl hfb, h.fab⟩
  have HM := Lib.hid M
  have HKEY := Lib.hid (key_of n hf)
  have HVAL := Lib.hid (plainElem_int (H := Unit) Tryd.underlying33 (a := (ns.length : Int) + 1) (WalkArith.wf_i64 (by omega)))
  have H := Lib.hid h
  have HN := Lib.hid hn
  have HNN := Lib.hid (NormA.snoc h.nrm h.wf hn hnn)
  have HNO := Lib.hid hno
  have HMI := Lib.hid hM
  have HWF := Lib.hid h.wf
  have qm : ∀ (w : World) (r : Option Nat), (binOp .eql 58 (.map r) (.map none)).run Tryd.prog w = .ok (.bool r.isNone) w := fun w r => run_eql_map_nil w _ _ _ r Tryd.underlying58
  have hmm := @run_makeMap Tryd.prog
  obtain ⟨nA, ncap, hnv⟩ : ∃ A cap, nv = .slice A ns.length cap := by
    rcases h.nrow.2 with ⟨e, h0⟩ | ⟨g, cap, cur, e, _⟩
    · exact ⟨none, 0, by rw [h0]; exact e⟩
    · exact ⟨_, cap, e⟩
  obtain ⟨iA, icap, hiv⟩ : ∃ A cap, iv = .slice A ns.length cap := by
    rcases h.irow.2 with ⟨e, h0⟩ | ⟨g, cap, cur, e, _⟩
    · exact ⟨none, 0, by rw [h0]; exact e⟩
    · exact ⟨_, cap, e⟩
  clear h hno hf ho hM M hn hnn hfb
  subst hnv
  subst hiv
  have hlk := hlook.out
  obtain ⟨i0, hi0, hz0, hz1, hz2⟩ := info_parts info76
  obtain ⟨i1, hi1, hy0, hy1, hy2⟩ := info_parts info84
  have HI := Lib.hid (And.intro hi0 (And.intro hz0 (And.intro hz1 hz2)))
  have HJ := Lib.hid (And.intro hi1 (And.intro hy0 (And.intro hy1 hy2)))
  clear hi0 hz0 hz1 hz2 hi1 hy0 hy1 hy2
  have hge : decide ((65536 : Int) ≤ (ns.length : Int)) = false := by simp; omega
  have HL := Lib.hid hl
  have HSZ := Lib.hid (show (w.alloc (.cells #[.int .i64 n.op, .int .i64 n.w, .int .u16 n.val, .int .i64 n.a, .int .i64 n.b, .int .i64 n.c] 85)).heap.size = w.heap.size + 1 by simp)
  have HLM : Hid (ns.length + 1 ≤ maxLen) := by show ns.length + 1 ≤ maxLen; unfold maxLen; omega
  have HLB : Hid ((ns.length + 1) * 48 ≤ 140737488355328) := by show (ns.length + 1) * 48 ≤ 140737488355328; omega
  have HLC : Hid ((ns.length + 1) * 8 ≤ 140737488355328) := by show (ns.length + 1) * 8 ≤ 140737488355328; omega
  have hne1 : Hid (some ab ≠ (Value.slice nA ns.length ncap).ownBlock) := fun e => not_row HM.out.nrow HM.out.blk (by decide) e.symm
  clear hl
  go_enter Tryd.func36, Tryd.ntmps36
  go_wp2
  go_quiet (fail)
  go_wp2_with fail
  go_cut [3] (fun s3 wx => s3 = .pointer (some ⟨w.heap.size, 0, none⟩) ∧ Cut8 w wx foot ab n ns (.slice iA ns.length icap) b vs D)
  case first =>
    go_region_law ((refine step_append_lies _ (by rfl) _ _ _ (by rfl) 0 85 i0 _ 6 48 Tryd.underlying56 HI.out.1 HI.out.2.1 HI.out.2.2.1 HI.out.2.2.2 rfl (by omega) (.slice nA ns.length ncap) ns.length (nodeCells ns) (by rfl) (by exact row_alike (HM.out.nrow.alloc _) rfl) ⟨w.heap.size + 1, 0, none⟩ 1 1 n.v (by rfl) (by rfl) (by exact World.news_of_block (cs := #[.int .i64 n.op, .int .i64 n.w, .int .u16 n.val, .int .i64 n.a, .int .i64 n.b, .int .i64 n.c]) (t := 85) (fr := (0, 0)) (new_at HSZ.out rfl)) (by simp [Nd.v, Value.oneCell']) (by omega) HLM.out HLB.out (Nat.zero_le _) (w.heap.size + 2) (by simp) ?_; intro g cap w1 hown1 hgrow hat hg1; have hA1 := HM.out.blk.grown hgrow rfl hne1.out; have q0 : w1.cell? ⟨ab, 0, none⟩ = some (.slice nA ns.length ncap) := hA1.cell 0; have qf : ∀ i, w1.frozen? ⟨ab, i, none⟩ = false := hA1.free; have HM1 := Lib.hid (Mid.nodes (by exact (HM.out.alloc _).alike rfl rfl rfl rfl) hgrow hown1 hat (by omega) (by omega)); clear hA1 hown1 hgrow))
    all_goals (go_wp2_with fail; go_meet; exact ⟨rfl, _, _, by exact HM1.out.alike rfl rfl rfl rfl⟩)
  case rest =>
    obtain ⟨rfl, A8, cap8, hM8⟩ := hcut
    have HM8 := Lib.hid hM8
    have HF8 : Hid (Half wc ab (ns.length + 1) ns) := ⟨A8, cap8, _, _, vs, hM8.blk, hM8.irow, by have := HL.out; omega⟩
    have q1 : wc.cell? ⟨ab, 1, none⟩ = some (.slice iA ns.length icap) := hM8.blk.cell 1
    have p0 : wc.cell? ⟨w.heap.size, 0, none⟩ = some (.int .i64 n.op) := hM8.bx.cell 0
    have p1 : wc.cell? ⟨w.heap.size, 1, none⟩ = some (.int .i64 n.w) := hM8.bx.cell 1
    have p2 : wc.cell? ⟨w.heap.size, 2, none⟩ = some (.int .u16 n.val) := hM8.bx.cell 2
    have p3 : wc.cell? ⟨w.heap.size, 3, none⟩ = some (.int .i64 n.a) := hM8.bx.cell 3
    have p4 : wc.cell? ⟨w.heap.size, 4, none⟩ = some (.int .i64 n.b) := hM8.bx.cell 4
    have p5 : wc.cell? ⟨w.heap.size, 5, none⟩ = some (.int .i64 n.c) := hM8.bx.cell 5
    have hge8 : w.heap.size ≤ wc.heap.size := hM8.kept.size
    clear hM8
    go_wp2_with fail
    go_cut [3] (fun s3 wx => s3 = .pointer (some ⟨w.heap.size, 0, none⟩) ∧ Cut9 w wx foot ab n ns b vs D)
    case first =>
      go_region_law (first | (refine step_append_lies _ (by rfl) _ _ _ (by rfl) 0 69 i1 _ 1 8 Tryd.underlying57 HJ.out.1 HJ.out.2.1 HJ.out.2.2.1 HJ.out.2.2.2 rfl (by omega) (.slice iA ns.length icap) ns.length (idCells ns) (by rfl) (by exact row_alike (HM3.out.irow.alloc _) rfl) ⟨w3.heap.size, 0, none⟩ 1 1 [.int .u64 ((niv (Iv ns) n : Nat) : Int)] (by rfl) (by rfl) (by exact World.news_of_block (cs := #[.int .u64 ((niv (Iv ns) n : Nat) : Int)]) (t := 69) (fr := (0, 0)) (new_at (W := w3) rfl rfl)) (by simp [Value.oneCell']) (by omega) HLM.out HLC.out (Nat.zero_le _) (w3.heap.size + 1) (by simp) ?_; intro g cap w4 hown4 hgrow4 hat4 hg4; have hA4 := HM3.out.blk.grown hgrow4 rfl hne3.out; have r0 : w4.cell? ⟨ab, 1, none⟩ = some (.slice iA ns.length icap) := hA4.cell 1; have rf : ∀ i, w4.frozen? ⟨ab, i, none⟩ = false := hA4.free; have HM4 := Lib.hid (Mid.ids (by exact (HM3.out.alloc _).alike rfl rfl rfl rfl) hgrow4 hown4 hat4 (by omega)); clear hA4 hown4 hgrow4) | (go_simp; go_at_call 53; refine (within_any _ ab (ns.length + 1) ns n (by exact HF8.out.alike rfl) (by omega) HWF.out HN.out).mono ?_; rintro e w3 ⟨rfl, hb3⟩; have HM3 := Lib.hid (Mid.below (by exact HM8.out.alike rfl rfl rfl rfl) hb3); have s1 : w3.cell? ⟨ab, 1, none⟩ = some (.slice iA ns.length icap) := HM3.out.blk.cell 1; have hge3 : w.heap.size ≤ w3.heap.size := HM3.out.kept.size; have hl3 : ab < w3.heap.size := HM3.out.blk.lt; have hne3 : Hid (some ab ≠ (Value.slice iA ns.length icap).ownBlock) := (fun e => not_row HM3.out.irow HM3.out.blk (by decide) e.symm); clear hb3))
      all_goals (go_wp2_with fail; go_meet; exact ⟨rfl, _, _, _, _, by exact HM4.out.alike rfl rfl rfl rfl⟩)
    case rest =>
      obtain ⟨rfl, A8, cap8, A9, cap9, hM9⟩ := hcut
      have u0 : wc.cell? ⟨ab, 0, none⟩ = some (.slice A8 (ns.length + 1) cap8) := hM9.blk.cell 0
      have u2 : wc.cell? ⟨ab, 2, none⟩ = some (.map (some b)) := hM9.blk.cell 2
      have v0 : wc.cell? ⟨w.heap.size, 0, none⟩ = some (.int .i64 n.op) := hM9.bx.cell 0
      have v1 : wc.cell? ⟨w.heap.size, 1, none⟩ = some (.int .i64 n.w) := hM9.bx.cell 1
      have v2 : wc.cell? ⟨w.heap.size, 2, none⟩ = some (.int .u16 n.val) := hM9.bx.cell 2
      have v3 : wc.cell? ⟨w.heap.size, 3, none⟩ = some (.int .i64 n.a) := hM9.bx.cell 3
      have v4 : wc.cell? ⟨w.heap.size, 4, none⟩ = some (.int .i64 n.b) := hM9.bx.cell 4
      have v5 : wc.cell? ⟨w.heap.size, 5, none⟩ = some (.int .i64 n.c) := hM9.bx.cell 5
      have HM9 := Lib.hid hM9
      clear hM9
      go_wp2_with fail
      go_still_tail 6, (by kernel_rfl)
      refine wpList_mapUpdate_own _ (by rfl) _ _ _ 58 (by rfl) 85 33 keyedNode Tryd.underlying58 _ b ns.length D (by rfl) (by exact ownsMap_same HM9.out.own rfl) (by have := HL.out; unfold maxLen; omega) _ _ _ (by rfl) (by rfl) HKEY.out _ [] HVAL.out ?_
      intro w5 hown5 hg5
      have HD := Lib.hid (Mid.done (by exact HM9.out.alike rfl rfl rfl rfl) HWF.out HN.out HNN.out H.out.once HNO.out HL.out HMI.out H.out.lt hown5 hg5)
      clear hown5 hg5
      go_wp2
      go_ret2
      exact ⟨rfl, HD.out⟩
set_option maxHeartbeats 1600000 in
set_option maxRecDepth 100000 in
theorem add_nil (w : World) (ab : Nat) (ns : List Nd) (foot : Nat → Prop) (nv iv : Value) (vs : List Int) (n : Nd) (h : ArAt w ab ns foot nv iv (.map none) vs) (hnil : ns = [])
    (hn : NW ns n) (hnn : NormN ns n) (hl : ns.length < 65536) :
    Calls Tryd.prog 36 #[ptr ab, n.ag] w fun e w' => e = .returned (.tuple #[.int .i64 ((ns.length : Int) + 1), .int .i64 0]) ∧ AddPost w ab ns foot vs n ((ns.length : Int) + 1) w' := by
  have hf : Fits n := hn.fits h.sz
  have hno : ∀ i : Nat, ns[i]? ≠ some n := fun i hi => by rw [hnil] at hi; simp at hi
  have hM : MapIs (.map [] : DataW Unit) ns := by rw [hnil]; exact map_nil
  have c0 : w.cell? ⟨ab, 0, none⟩ = some nv := h.blk.cell 0
  have c2 : w.cell? ⟨ab, 2, none⟩ = some (.map none) := h.blk.cell 2
  have fr : ∀ i, w.frozen? ⟨ab, i, none⟩ = false := h.blk.free
  have hlt := h.blk.lt
  have hlook : Hid (∀ W : World, (Instr.lookup 58 (.map none) (.agg #[.int .i64 n.op, .int .i64 n.w, .int .u16 n.val, .int .i64 n.a, .int .i64 n.b, .int .i64 n.c]) true).run Tryd.prog W = .ok (.tuple #[.int .i64 0, .bool false]) W) := fun W => Maps.look_nil (w := W) true keyedNode Tryd.underlying58 (zeroT W) (key_of n hf)
  have hs1 : ((w.alloc (.cells #[.int .i64 n.op, .int .i64 n.w, .int .u16 n.val, .int .i64 n.a, .int .i64 n.b, .int .i64 n.c] 85)).setCell ⟨ab, 2, none⟩ (.map (some (w.heap.size + 1)))).heap.size = w.heap.size + 1 := by simp [World.setCell]
  have far : ∀ k, k < w.heap.size → k ≠ ab → (((w.alloc (.cells #[.int .i64 n.op, .int .i64 n.w, .int .u16 n.val, .int .i64 n.a, .int .i64 n.b, .int .i64 n.c] 85)).setCell ⟨ab, 2, none⟩ (.map (some (w.heap.size + 1)))).alloc (.map #[] 0)).heap[k]? = w.heap[k]? := fun k hk hne => (alloc_other (by omega)).trans ((set_other (p := ⟨ab, 2, none⟩) hne).trans (alloc_other hk))
  have M : Mid w (((w.alloc (.cells #[.int .i64 n.op, .int .i64 n.w, .int .u16 n.val, .int .i64 n.a, .int .i64 n.b, .int .i64 n.c] 85)).setCell ⟨ab, 2, none⟩ (.map (some (w.heap.size + 1)))).alloc (.map #[] 0)) foot ab w.heap.size n ns.length ns.length ns.length (nodeCells ns) (idCells ns) nv iv (w.heap.size + 1) vs (.map []) := by
    refine ⟨?_, ?_, row_same h.nrow (fun g hg => far g (h.lt g (h.fn g hg)) ?_), row_same h.irow (fun g hg => far g (h.lt g (h.fi g hg)) ?_), ?_, fun e => by have := h.lt _ (h.fn _ e); omega, ((((Kept.refl _ _).alloc _).setCell (p := ⟨ab, 2, none⟩) (fun _ => h.fab) _).alloc _), fun g hg => .inl (h.fn g hg), fun g hg => .inl (h.fi g hg), .inr (by omega), h.fab⟩
    · have := ((h.blk.same (w' := w.alloc (.cells #[.int .i64 n.op, .int .i64 n.w, .int .u16 n.val, .int .i64 n.a, .int .i64 n.b, .int .i64 n.c] 85)) (alloc_other h.blk.lt)).put 2 (.map (some (w.heap.size + 1))))
      rw [arr2] at this
      exact this.same (alloc_other (by rw [hs1]; omega))
    · exact ((Has.new w 85 #[.int .i64 n.op, .int .i64 n.w, .int .u16 n.val, .int .i64 n.a, .int .i64 n.b, .int .i64 n.c]).same (set_other (p := ⟨ab, 2, none⟩) (by simp; omega))).same (alloc_other (by rw [hs1]; omega))
    · obtain ⟨cur, hr⟩ := row_block h.nrow hg
      exact hr.unlike h.blk (by decide)
    · obtain ⟨cur, hr⟩ := row_block h.irow hg
      exact hr.unlike h.blk (by decide)
    · have := World.ownsMap_made (H := Unit) ((w.alloc (.cells #[.int .i64 n.op, .int .i64 n.w, .int .u16 n.val, .int .i64 n.a, .int .i64 n.b, .int .i64 n.c] 85)).setCell ⟨ab, 2, none⟩ (.map (some (w.heap.size + 1)))) Tryd.prog 85 (plainElem Tryd.prog 33)
      rw [hs1] at this
      exact this.mono (Nat.zero_le _)
  have D0 := trivial
  generalize hD : (.map [] : DataW Unit) = D at M hM
  clear hD D0 far hs1
  have HM := Lib.hid M
  have HKEY := Lib.hid (key_of n hf)
  have HVAL := Lib.hid (plainElem_int (H := Unit) Tryd.underlying33 (a := (ns.length : Int) + 1) (WalkArith.wf_i64 (by omega)))
  have H := Lib.hid h
  have HN := Lib.hid hn
  have HNN := Lib.hid (NormA.snoc h.nrm h.wf hn hnn)
  have HNO := Lib.hid hno
  have HMI := Lib.hid hM
  have HWF := Lib.hid h.wf
  have qm : ∀ (w : World) (r : Option Nat), (binOp .eql 58 (.map r) (.map none)).run Tryd.prog w = .ok (.bool r.isNone) w := fun w r => run_eql_map_nil w _ _ _ r Tryd.underlying58
  have hmm := @run_makeMap Tryd.prog
  obtain ⟨nA, ncap, hnv⟩ : ∃ A cap, nv = .slice A ns.length cap := by
    rcases h.nrow.2 with ⟨e, h0⟩ | ⟨g, cap, cur, e, _⟩
    · exact ⟨none, 0, by rw [h0]; exact e⟩
    · exact ⟨_, cap, e⟩
  obtain ⟨iA, icap, hiv⟩ : ∃ A cap, iv = .slice A ns.length cap := by
    rcases h.irow.2 with ⟨e, h0⟩ | ⟨g, cap, cur, e, _⟩
    · exact ⟨none, 0, by rw [h0]; exact e⟩
    · exact ⟨_, cap, e⟩
  clear h hno hf hM M hn hnn hnil
  subst hnv
  subst hiv
  have hlk := hlook.out
  obtain ⟨i0, hi0, hz0, hz1, hz2⟩ := info_parts info76
  obtain ⟨i1, hi1, hy0, hy1, hy2⟩ := info_parts info84
  have HI := Lib.hid (And.intro hi0 (And.intro hz0 (And.intro hz1 hz2)))
  have HJ := Lib.hid (And.intro hi1 (And.intro hy0 (And.intro hy1 hy2)))
  clear hi0 hz0 hz1 hz2 hi1 hy0 hy1 hy2
  have hge : decide ((65536 : Int) ≤ (ns.length : Int)) = false := by simp; omega
  have HL := Lib.hid hl
  have HSZ := Lib.hid (show (((w.alloc (.cells #[.int .i64 n.op, .int .i64 n.w, .int .u16 n.val, .int .i64 n.a, .int .i64 n.b, .int .i64 n.c] 85)).setCell ⟨ab, 2, none⟩ (.map (some (w.heap.size + 1)))).alloc (.map #[] 0)).heap.size = w.heap.size + 2 by simp [World.setCell])
  have HLM : Hid (ns.length + 1 ≤ maxLen) := by show ns.length + 1 ≤ maxLen; unfold maxLen; omega
  have HLB : Hid ((ns.length + 1) * 48 ≤ 140737488355328) := by show (ns.length + 1) * 48 ≤ 140737488355328; omega
  have HLC : Hid ((ns.length + 1) * 8 ≤ 140737488355328) := by show (ns.length + 1) * 8 ≤ 140737488355328; omega
  have hne1 : Hid (some ab ≠ (Value.slice nA ns.length ncap).ownBlock) := fun e => not_row HM.out.nrow HM.out.blk (by decide) e.symm
  clear hl
  go_enter Tryd.func36, Tryd.ntmps36
  go_wp2
  go_quiet (fail)
  go_upto_if 30 with fail
  go_cut [3] (fun s3 wx => s3 = .pointer (some ⟨w.heap.size, 0, none⟩) ∧ Mid w wx foot ab w.heap.size n ns.length ns.length ns.length (nodeCells ns) (idCells ns) (.slice nA ns.length ncap) (.slice iA ns.length icap) (w.heap.size + 1) vs D)
  case first =>
    go_wp2
    go_meet
    exact ⟨rfl, by exact HM.out.alike rfl rfl rfl rfl⟩
  clear HM
  obtain ⟨rfl, hM7⟩ := hcut
  have HM := Lib.hid hM7
  have hge7 : w.heap.size ≤ wc.heap.size := hM7.kept.size
  have hl7 : ab < wc.heap.size := hM7.blk.lt
  have z0 : wc.cell? ⟨ab, 0, none⟩ = some (.slice nA ns.length ncap) := hM7.blk.cell 0
  have t0 : wc.cell? ⟨w.heap.size, 0, none⟩ = some (.int .i64 n.op) := hM7.bx.cell 0
  have t1 : wc.cell? ⟨w.heap.size, 1, none⟩ = some (.int .i64 n.w) := hM7.bx.cell 1
  have t2 : wc.cell? ⟨w.heap.size, 2, none⟩ = some (.int .u16 n.val) := hM7.bx.cell 2
  have t3 : wc.cell? ⟨w.heap.size, 3, none⟩ = some (.int .i64 n.a) := hM7.bx.cell 3
  have t4 : wc.cell? ⟨w.heap.size, 4, none⟩ = some (.int .i64 n.b) := hM7.bx.cell 4
  have t5 : wc.cell? ⟨w.heap.size, 5, none⟩ = some (.int .i64 n.c) := hM7.bx.cell 5
  have hl9 : w.heap.size < wc.heap.size := hM7.bx.lt
  clear hM7
  go_wp2_with fail
  go_cut [3] (fun s3 wx => s3 = .pointer (some ⟨w.heap.size, 0, none⟩) ∧ Cut8 w wx foot ab n ns (.slice iA ns.length icap) (w.heap.size + 1) vs D)
  case first =>
    go_region_law ((refine step_append_lies _ (by rfl) _ _ _ (by rfl) 0 85 i0 _ 6 48 Tryd.underlying56 HI.out.1 HI.out.2.1 HI.out.2.2.1 HI.out.2.2.2 rfl (by omega) (.slice nA ns.length ncap) ns.length (nodeCells ns) (by rfl) (by exact row_alike (HM.out.nrow.alloc _) rfl) ⟨wc.heap.size, 0, none⟩ 1 1 n.v (by rfl) (by rfl) (by exact World.news_of_block (cs := #[.int .i64 n.op, .int .i64 n.w, .int .u16 n.val, .int .i64 n.a, .int .i64 n.b, .int .i64 n.c]) (t := 85) (fr := (0, 0)) (new_at (W := wc) rfl rfl)) (by simp [Nd.v, Value.oneCell']) (by omega) HLM.out HLB.out (Nat.zero_le _) (wc.heap.size + 1) (by simp) ?_; intro g cap w1 hown1 hgrow hat hg1; have hA1 := HM.out.blk.grown hgrow rfl hne1.out; have q0 : w1.cell? ⟨ab, 0, none⟩ = some (.slice nA ns.length ncap) := hA1.cell 0; have qf : ∀ i, w1.frozen? ⟨ab, i, none⟩ = false := hA1.free; have HM1 := Lib.hid (Mid.nodes (by exact (HM.out.alloc _).alike rfl rfl rfl rfl) hgrow hown1 hat (by omega) (by omega)); clear hA1 hown1 hgrow))
    all_goals (go_wp2_with fail; go_meet; exact ⟨rfl, _, _, by exact HM1.out.alike rfl rfl rfl rfl⟩)
  case rest =>
    obtain ⟨rfl, A8, cap8, hM8⟩ := hcut
    have HM8 := Lib.hid hM8
    have HF8 : Hid (Half wc ab (ns.length + 1) ns) := ⟨A8, cap8, _, _, vs, hM8.blk, hM8.irow, by have := HL.out; omega⟩
    have q1 : wc.cell? ⟨ab, 1, none⟩ = some (.slice iA ns.length icap) := hM8.blk.cell 1
    have p0 : wc.cell? ⟨w.heap.size, 0, none⟩ = some (.int .i64 n.op) := hM8.bx.cell 0
    have p1 : wc.cell? ⟨w.heap.size, 1, none⟩ = some (.int .i64 n.w) := hM8.bx.cell 1
    have p2 : wc.cell? ⟨w.heap.size, 2, none⟩ = some (.int .u16 n.val) := hM8.bx.cell 2
    have p3 : wc.cell? ⟨w.heap.size, 3, none⟩ = some (.int .i64 n.a) := hM8.bx.cell 3
    have p4 : wc.cell? ⟨w.heap.size, 4, none⟩ = some (.int .i64 n.b) := hM8.bx.cell 4
    have p5 : wc.cell? ⟨w.heap.size, 5, none⟩ = some (.int .i64 n.c) := hM8.bx.cell 5
    have hge8 : w.heap.size ≤ wc.heap.size := hM8.kept.size
    clear hM8
    go_wp2_with fail
    go_cut [3] (fun s3 wx => s3 = .pointer (some ⟨w.heap.size, 0, none⟩) ∧ Cut9 w wx foot ab n ns (w.heap.size + 1) vs D)
    case first =>
      go_region_law (first | (refine step_append_lies _ (by rfl) _ _ _ (by rfl) 0 69 i1 _ 1 8 Tryd.underlying57 HJ.out.1 HJ.out.2.1 HJ.out.2.2.1 HJ.out.2.2.2 rfl (by omega) (.slice iA ns.length icap) ns.length (idCells ns) (by rfl) (by exact row_alike (HM3.out.irow.alloc _) rfl) ⟨w3.heap.size, 0, none⟩ 1 1 [.int .u64 ((niv (Iv ns) n : Nat) : Int)] (by rfl) (by rfl) (by exact World.news_of_block (cs := #[.int .u64 ((niv (Iv ns) n : Nat) : Int)]) (t := 69) (fr := (0, 0)) (new_at (W := w3) rfl rfl)) (by simp [Value.oneCell']) (by omega) HLM.out HLC.out (Nat.zero_le _) (w3.heap.size + 1) (by simp) ?_; intro g cap w4 hown4 hgrow4 hat4 hg4; have hA4 := HM3.out.blk.grown hgrow4 rfl hne3.out; have r0 : w4.cell? ⟨ab, 1, none⟩ = some (.slice iA ns.length icap) := hA4.cell 1; have rf : ∀ i, w4.frozen? ⟨ab, i, none⟩ = false := hA4.free; have HM4 := Lib.hid (Mid.ids (by exact (HM3.out.alloc _).alike rfl rfl rfl rfl) hgrow4 hown4 hat4 (by omega)); clear hA4 hown4 hgrow4) | (go_simp; go_at_call 53; refine (within_any _ ab (ns.length + 1) ns n (by exact HF8.out.alike rfl) (by omega) HWF.out HN.out).mono ?_; rintro e w3 ⟨rfl, hb3⟩; have HM3 := Lib.hid (Mid.below (by exact HM8.out.alike rfl rfl rfl rfl) hb3); have s1 : w3.cell? ⟨ab, 1, none⟩ = some (.slice iA ns.length icap) := HM3.out.blk.cell 1; have hge3 : w.heap.size ≤ w3.heap.size := HM3.out.kept.size; have hl3 : ab < w3.heap.size := HM3.out.blk.lt; have hne3 : Hid (some ab ≠ (Value.slice iA ns.length icap).ownBlock) := (fun e => not_row HM3.out.irow HM3.out.blk (by decide) e.symm); clear hb3))
      all_goals (go_wp2_with fail; go_meet; exact ⟨rfl, _, _, _, _, by exact HM4.out.alike rfl rfl rfl rfl⟩)
    case rest =>
      obtain ⟨rfl, A8, cap8, A9, cap9, hM9⟩ := hcut
      have u0 : wc.cell? ⟨ab, 0, none⟩ = some (.slice A8 (ns.length + 1) cap8) := hM9.blk.cell 0
      have u2 : wc.cell? ⟨ab, 2, none⟩ = some (.map (some (w.heap.size + 1))) := hM9.blk.cell 2
      have v0 : wc.cell? ⟨w.heap.size, 0, none⟩ = some (.int .i64 n.op) := hM9.bx.cell 0
      have v1 : wc.cell? ⟨w.heap.size, 1, none⟩ = some (.int .i64 n.w) := hM9.bx.cell 1
      have v2 : wc.cell? ⟨w.heap.size, 2, none⟩ = some (.int .u16 n.val) := hM9.bx.cell 2
      have v3 : wc.cell? ⟨w.heap.size, 3, none⟩ = some (.int .i64 n.a) := hM9.bx.cell 3
      have v4 : wc.cell? ⟨w.heap.size, 4, none⟩ = some (.int .i64 n.b) := hM9.bx.cell 4
      have v5 : wc.cell? ⟨w.heap.size, 5, none⟩ = some (.int .i64 n.c) := hM9.bx.cell 5
      have HM9 := Lib.hid hM9
      clear hM9
      go_wp2_with fail
      go_still_tail 6, (by kernel_rfl)
      refine wpList_mapUpdate_own _ (by rfl) _ _ _ 58 (by rfl) 85 33 keyedNode Tryd.underlying58 _ (w.heap.size + 1) ns.length D (by rfl) (by exact ownsMap_same HM9.out.own rfl) (by have := HL.out; unfold maxLen; omega) _ _ _ (by rfl) (by rfl) HKEY.out _ [] HVAL.out ?_
      intro w5 hown5 hg5
      have HD := Lib.hid (Mid.done (by exact HM9.out.alike rfl rfl rfl rfl) HWF.out HN.out HNN.out H.out.once HNO.out HL.out HMI.out H.out.lt hown5 hg5)
      clear hown5 hg5
      go_wp2
      go_ret2
      exact ⟨rfl, HD.out⟩
end Go.Proofs.YtgbmiphaabeodaaDoor
