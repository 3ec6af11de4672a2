/-
  within of package fix: the terms that a term is made of.
-/
import Derived.Test.YtgbmiphaabeodaaDoorFixO
import Derived.Test.YtgbmiphaabeodaaDoorFixM
import Derived.Test.YtgbmiphaabeodaaDoorFixL
import Derived.Lib.Hide
import Derived.WalkKit
import Derived.Test.YtgbmiphaabeodaaDoorTermU
import Derived.Test.YtgbmiphaabeodaaDoorTermK
import Derived.Test.YtgbmiphaabeodaaDoorTermAdd
import Derived.RegionTactic
import Derived.Deep.DeepCutAuto
import Derived.ChangeAlike
import Derived.Deep.RegionLaw
namespace Go.Proofs.YtgbmiphaabeodaaDoor
open Go.ChangeShapes Go.WideShapes Go.ChangeAt Go.RowKit
set_option linter.unusedVariables false
attribute [local go_sem ↓] Go.wp_at_zero Go.wp_at_succ

def F0 (W : World) (b : Nat) : Prop := SetAt [] W b
def F1 (W : World) (b : Nat) : Prop := ∃ z, SetAt [z] W b
theorem turned_size {W W' : World} {b : Nat} (h : W.mapTurned W' b) : W'.heap.size = W.heap.size ∧ (∀ k, k ≠ b → W'.heap[k]? = W.heap[k]?) ∧ W'.os = W.os ∧ W'.tape = W.tape ∧ W'.output = W.output := by
  obtain ⟨es, clock, es', clock', hb, rfl⟩ := h
  refine ⟨by simp [ChangeMaps.setBlock], fun k hk => ?_, rfl, rfl, rfl⟩
  simp only [ChangeMaps.setBlock]
  rw [Array.getElem?_setIfInBounds_ne (fun e => hk e.symm)]
/-- What has been laid so far: the row of x alone, the map. -/
structure Pst (w1 : World) (x : Int) (W : World) (k : Nat) (lo : Option Nat) (mo : Option (Nat × List Int)) : Prop where
  size : W.heap.size = w1.heap.size + k
  below : Below w1.heap.size w1 W
  hl : ∀ lb, lo = some lb → Has W lb 33 #[.int .i64 x] ∧ w1.heap.size ≤ lb
  hm : ∀ mb S, mo = some (mb, S) → SetAt S W mb ∧ w1.heap.size ≤ mb
section
variable {w1 W : World} {x : Int} {k : Nat} {lo : Option Nat} {mo : Option (Nat × List Int)}
theorem Pst.start (w1 : World) (x : Int) : Pst w1 x w1 0 none none := ⟨rfl, Below.refl _ _, (fun _ h => by cases h), (fun _ _ h => by cases h)⟩
theorem Pst.drew (h : Pst w1 x W k lo mo) : Pst w1 x W.drew k lo mo := ⟨h.size, below_alike3 h.below rfl rfl rfl rfl, fun lb e => ⟨(h.hl lb e).1.same rfl, (h.hl lb e).2⟩, fun mb S e => ⟨(h.hm mb S e).1.same rfl, (h.hm mb S e).2⟩⟩
theorem Pst.cells (h : Pst w1 x W k none mo) : Pst w1 x (W.alloc (.cells #[.int .i64 x] 33)) (k + 1) (some (w1.heap.size + k)) mo :=
  ⟨by simp [h.size, Nat.add_assoc], h.below.alloc h.below.size _, (fun lb e => by
    injection e with e; subst e
    refine ⟨?_, by omega⟩
    have := Has.new W 33 #[.int .i64 x]
    rwa [h.size] at this), fun mb S e => ⟨(h.hm mb S e).1.same (alloc_other (h.hm mb S e).1.lt), (h.hm mb S e).2⟩⟩
theorem Pst.map (h : Pst w1 x W k lo none) : Pst w1 x (W.alloc (.map #[] 0)) (k + 1) lo (some (w1.heap.size + k, [])) :=
  ⟨by simp [h.size, Nat.add_assoc], h.below.alloc h.below.size _, fun lb e => ⟨(h.hl lb e).1.same (alloc_other (h.hl lb e).1.lt), (h.hl lb e).2⟩, (fun mb S e => by
    injection e with e; injection e with e1 e2; subst e1; subst e2
    refine ⟨?_, by omega⟩
    have := SetAt.made W
    rwa [h.size] at this)⟩
theorem Pst.ins {mb : Nat} {S : List Int} {z : Int} (h : Pst w1 x W k lo (some (mb, S))) (hz : (Lit.int .i64 z).wf = true) (hS : S.length ≤ 1) : Pst w1 x (insW W mb z) k lo (some (mb, z :: S)) := by
  obtain ⟨hs, hge⟩ := h.hm mb S rfl
  obtain ⟨_, h2, h3⟩ := insW_run hs (by unfold maxLen; omega) hz
  obtain ⟨t1, t2, t3, t4, t5⟩ := turned_size h3
  refine ⟨t1.trans h.size, ⟨t3.trans h.below.os, t4.trans h.below.tape, t5.trans h.below.output, by rw [t1]; exact h.below.size, fun j hj => (t2 j (by omega)).trans (h.below.block j hj)⟩, fun lb e => ⟨?_, (h.hl lb e).2⟩, fun mb' S' e => ?_⟩
  · have hb := (h.hl lb e).1
    refine hb.same (t2 lb fun e2 => ?_)
    subst e2
    obtain ⟨D, ho, _⟩ := hs
    exact not_map ho hb rfl
  · injection e with e; injection e with e1 e2; subst e1; subst e2
    exact ⟨h2, hge⟩
end
/-- What the first statement leaves. -/
def WStart (w1 : World) (x : Int) (s5 s6 : Value) (W : World) : Prop := ∃ lb mb S, s5 = .slice (some ⟨lb, 0, none⟩) 1 1 ∧ s6 = .map (some mb) ∧ Below w1.heap.size w1 W ∧ Has W lb 33 #[.int .i64 x] ∧ w1.heap.size ≤ lb ∧ SetAt S W mb ∧ w1.heap.size ≤ mb ∧ (S = [0, x] ∨ S = [x, 0])
theorem Pst.done {w1 W : World} {x : Int} {k lb mb : Nat} {S : List Int} (h : Pst w1 x W k (some lb) (some (mb, S))) (hS : S = [0, x] ∨ S = [x, 0]) : WStart w1 x (.slice (some ⟨lb, 0, none⟩) 1 1) (.map (some mb)) W :=
  ⟨lb, mb, S, rfl, rfl, h.below, (h.hl lb rfl).1, (h.hl lb rfl).2, (h.hm mb S rfl).1, (h.hm mb S rfl).2, hS⟩
/-- What within answers: the terms that x is made of, in order. -/
def WPost (w : World) (ns : List Nd) (x : Int) (e : Ending) (w' : World) : Prop := ∃ (ls : List Int) (g cap : Nat), e = .returned (.slice (some ⟨g, 0, none⟩) ls.length cap) ∧ Wl ns x ls ∧ NumsAt .i64 w' (some ⟨g, 0, none⟩) ls ∧ Below w.heap.size w w' ∧ ls.length ≤ cap ∧ cap ≤ 9223372036854775807 ∧ w.heap.size ≤ g
theorem infoT : (Tryd.prog.info? 33).map (fun i => (i.zero, i.size, i.bytes)) = some (some (.int .i64 0), 1, 8) := by kernel_rfl
def tcells (l : List Int) : List Value := l.map (Value.int .i64)
/-- What holds at a round's head but for how far it is. -/
structure WR (w1 wr : World) (mb : Nat) (l : Value) (ls : List Int) : Prop where
  row : wr.ownsRow w1.heap.size 33 1 l ls.length (tcells ls)
  set : ∃ S, SetAt S wr mb ∧ S.length = ls.length + 1 ∧ ∀ z, z ∈ S ↔ InL ls z
  below : Below w1.heap.size w1 wr
  ge : w1.heap.size ≤ mb
theorem WR.start {w1 W : World} {x : Int} {s5 s6 : Value} (h : WStart w1 x s5 s6 W) : ∃ lb mb, s5 = .slice (some ⟨lb, 0, none⟩) 1 1 ∧ s6 = .map (some mb) ∧ WR w1 W mb (.slice (some ⟨lb, 0, none⟩) 1 1) [x] := by
  obtain ⟨lb, mb, S, e5, e6, hb, hh, hge, hs, hge2, hS⟩ := h
  refine ⟨lb, mb, e5, e6, ⟨⟨rfl, .inr ⟨lb, 1, _, rfl, hge, hh, Nat.le_refl _, by unfold maxLen; decide, rfl, rfl⟩⟩, ⟨S, hs, by rcases hS with rfl | rfl <;> rfl, fun z => ?_⟩, hb, hge2⟩⟩
  unfold InL
  rcases hS with rfl | rfl <;> simp
  exact or_comm
theorem WR.alike {w1 wr W : World} {mb : Nat} {l : Value} {ls : List Int} (h : WR w1 wr mb l ls) (he : W.heap = wr.heap) (h1 : W.os = wr.os) (h2 : W.tape = wr.tape) (h3 : W.output = wr.output) : WR w1 W mb l ls := by
  obtain ⟨S, hs, h4, h5⟩ := h.set
  exact ⟨row_same h.row (fun g _ => by rw [he]), ⟨S, hs.same (by rw [he]), h4, h5⟩, below_alike3 h.below he h1 h2 h3, h.ge⟩
theorem WR.step {w1 wr W : World} {mb : Nat} {l : Value} {ls : List Int} (h : WR w1 wr mb l ls) (hb : Below wr.heap.size wr W) : WR w1 W mb l ls := by
  obtain ⟨S, hs, h4, h5⟩ := h.set
  exact ⟨row_from h.row hb, ⟨S, hs.same (hb.block _ hs.lt), h4, h5⟩, h.below.trans (hb.mono h.below.size), h.ge⟩
theorem WR.alloc {w1 wr : World} {mb : Nat} {l : Value} {ls : List Int} (h : WR w1 wr mb l ls) (o : Obj) : WR w1 (wr.alloc o) mb l ls := h.step ((Below.refl _ _).alloc (Nat.le_refl _) _)
theorem WR.more {w1 wr wm wp : World} {mb cap g cap' : Nat} {LA : Option Addr} {ls S : List Int} {D : DataW Unit} {p : Int} {oA oN : Obj} (R : WR w1 wr mb (.slice LA ls.length cap) ls)
    (ho : wr.ownsMap Tryd.prog 33 (unitElem (H := Unit)) mb S.length D) (hh : ∀ z, (Lit.int .i64 z).wf = true → Maps.has D (.int .i64 z) = decide (z ∈ S)) (hS : S.length = ls.length + 1) (hm : ∀ z, z ∈ S ↔ InL ls z) (hp : (Lit.int .i64 p).wf = true)
    (h1 : wm.ownsMap Tryd.prog 33 (unitElem (H := Unit)) mb (S.length + 1) (D.put (.int .i64 p) (.agg []))) (g1 : (wr.alloc oA).grownBy wm (some mb))
    (h2 : wp.ownsRow w1.heap.size 33 1 (.slice (some ⟨g, 0, none⟩) (ls.length + 1) cap') (ls.length + 1) (tcells ls ++ [.int .i64 p])) (g2 : (wm.alloc oN).grownBy wp (Value.ownBlock (.slice LA ls.length cap))) :
    WR w1 wp mb (.slice (some ⟨g, 0, none⟩) (ls.length + 1) cap') (ls ++ [p]) := by
  have hl : (ls ++ [p]).length = ls.length + 1 := by simp
  have s1 := R.below.size
  have s2 := g1.size
  have s3 := g2.size
  simp at s2 s3
  have hset := SetAt.of_put ho.isMap hp hh h1
  have hne : Value.ownBlock (.slice LA ls.length cap) ≠ some mb := fun e => by
    obtain ⟨cur, hc⟩ := row_block R.row e
    exact not_map ho hc rfl
  refine ⟨by rw [hl]; unfold tcells; rw [List.map_append]; exact h2, ⟨p :: S, hset.same ?_, by rw [hl, List.length_cons, hS], fun z => ?_⟩, ?_, R.ge⟩
  · exact (g2.block mb (by have := hset.lt; simp; omega) (fun e => hne e.symm)).trans (alloc_other hset.lt)
  · unfold InL
    rw [List.mem_cons, List.mem_append, List.mem_singleton, hm]
    unfold InL
    constructor
    · rintro (h | h | h)
      · exact .inr (.inr h)
      · exact .inl h
      · exact .inr (.inl h)
    · rintro (h | h | h)
      · exact .inr (.inl h)
      · exact .inr (.inr h)
      · exact .inl h
  · have b1 := (R.below.alloc R.below.size oA).grown g1 (by simp; omega) (fun k e => by injection e with e; subst e; exact R.ge)
    refine (b1.alloc b1.size oN).grown g2 (by simp; omega) (fun k e => ?_)
    rcases R.row.2 with ⟨e2, _⟩ | ⟨g', c', cur, e2, hge, _⟩
    · rw [e2] at e; cases e
    · rw [e2] at e
      have : g' = k := by simpa [Value.ownBlock] using e
      omega
theorem WR.rowm {w1 wr wm : World} {mb cap : Nat} {LA : Option Addr} {ls : List Int} {n : Nat} {D : DataW Unit} {oA : Obj} (R : WR w1 wr mb (.slice LA ls.length cap) ls) (ho : wr.ownsMap Tryd.prog 33 (unitElem (H := Unit)) mb n D) (g1 : (wr.alloc oA).grownBy wm (some mb)) :
    wm.ownsRow w1.heap.size 33 1 (.slice LA ls.length cap) ls.length (tcells ls) := row_same R.row (fun b hb => by
  obtain ⟨cur, hc⟩ := row_block R.row hb
  exact (g1.block b (by have := hc.lt; simp; omega) (fun e => by injection e with e; exact not_map ho hc e.symm)).trans (alloc_other hc.lt))
set_option maxHeartbeats 1600000 in
set_option maxRecDepth 100000 in
theorem fwithin_any (w : World) (ab : Nat) (ns : List Nd) (foot : Nat → Prop) (x : Int) (h : Ar w ab ns foot) (hx : isT ns x) :
    Calls Tryd.prog 34 #[ptr ab, .int .i64 x] w (WPost w ns x) := by
  have HW := Lib.hid (width_any w ab ns foot x h)
  have hm := wdt_may h.wf hx
  have hw0 : (wdt ns x == 0) = false := by rcases hm with e | e | e <;> rw [e] <;> rfl
  have hsz := h.sz
  have hx1 := hx.1
  have hx2 := hx.2
  have hwx : (Lit.int .i64 x).wf = true := WalkArith.wf_i64 (by omega)
  have hwz : (Lit.int .i64 0).wf = true := WalkArith.wf_i64 (by omega)
  have hmm := @run_makeMap Tryd.prog
  have r0 : ∀ W : World, F0 (W.alloc (.map #[] 0)) W.heap.size := SetAt.made
  have r1 : ∀ (W : World) (b : Nat), F0 W b → F0 W.drew b := fun W b h => h.same rfl
  have r2 : ∀ (W : World) (b : Nat) (cs : Array Value) (t : TypeId), F0 W b → F0 (W.alloc (.cells cs t)) b := fun W b cs t h => h.same (alloc_other h.lt)
  have r3 : ∀ (W : World) (b : Nat), F1 W b → F1 W.drew b := fun W b ⟨z, h⟩ => ⟨z, h.same rfl⟩
  have r4 : ∀ (W : World) (b : Nat) (cs : Array Value) (t : TypeId), F1 W b → F1 (W.alloc (.cells cs t)) b := fun W b cs t ⟨z, h⟩ => ⟨z, h.same (alloc_other h.lt)⟩
  have n0 : ([] : List Int).length < maxLen := by unfold maxLen; decide
  have r5 : ∀ (W : World) (b : Nat), F0 W b → F1 (insW W b 0) b := fun W b h => ⟨0, (insW_run h n0 hwz).2.1⟩
  have r6 : ∀ (W : World) (b : Nat), F0 W b → F1 (insW W b x) b := fun W b h => ⟨x, (insW_run h n0 hwx).2.1⟩
  have n1 : ∀ z : Int, [z].length < maxLen := fun z => by unfold maxLen; simp
  have u0 : ∀ (W : World) (b : Nat), F0 W b → (Instr.mapUpdate SMT (.map (some b)) (.int .i64 0) (.agg #[])).run Tryd.prog W = .ok () (insW W b 0) := fun W b h => (insW_run h n0 hwz).1
  have u1 : ∀ (W : World) (b : Nat), F0 W b → (Instr.mapUpdate SMT (.map (some b)) (.int .i64 x) (.agg #[])).run Tryd.prog W = .ok () (insW W b x) := fun W b h => (insW_run h n0 hwx).1
  have u2 : ∀ (W : World) (b : Nat), F1 W b → (Instr.mapUpdate SMT (.map (some b)) (.int .i64 0) (.agg #[])).run Tryd.prog W = .ok () (insW W b 0) := fun W b ⟨z, h⟩ => (insW_run h (n1 z) hwz).1
  have u3 : ∀ (W : World) (b : Nat), F1 W b → (Instr.mapUpdate SMT (.map (some b)) (.int .i64 x) (.agg #[])).run Tryd.prog W = .ok () (insW W b x) := fun W b ⟨z, h⟩ => (insW_run h (n1 z) hwx).1
  have s0 : ∀ (W : World) (b : Nat), F0 W b → (insW W b 0).heap.size = W.heap.size := fun W b h => (turned_size (insW_run h n0 hwz).2.2).1
  have s1 : ∀ (W : World) (b : Nat), F0 W b → (insW W b x).heap.size = W.heap.size := fun W b h => (turned_size (insW_run h n0 hwx).2.2).1
  have s2 : ∀ (W : World) (b : Nat), F1 W b → (insW W b 0).heap.size = W.heap.size := fun W b ⟨z, h⟩ => (turned_size (insW_run h (n1 z) hwz).2.2).1
  have s3 : ∀ (W : World) (b : Nat), F1 W b → (insW W b x).heap.size = W.heap.size := fun W b ⟨z, h⟩ => (turned_size (insW_run h (n1 z) hwx).2.2).1
  have HAR := Lib.hid h
  have HSZ := Lib.hid hsz
  obtain ⟨i0, hi0, hz0, hz1, hz2⟩ := info_parts infoT
  have HI := Lib.hid (And.intro hi0 (And.intro hz0 (And.intro hz1 hz2)))
  clear hi0 hz0 hz1 hz2
  clear hm hsz h hx n0 n1
  go_enter Tryd.func34, Tryd.ntmps34
  go_wp2_with fail
  refine HW.out.mono ?_
  rintro e w1 ⟨rfl, hb⟩
  have HB1 := Lib.hid hb
  clear hb
  have f1 : F0 ((w1.alloc (.map #[] 0)).drew) w1.heap.size := r1 _ _ (r0 w1)
  have f2 : F0 (((w1.alloc (.cells #[.int .i64 x] 33)).alloc (.map #[] 0)).drew) (w1.heap.size + 1) := by
    have := r1 _ _ (r0 (w1.alloc (.cells #[.int .i64 x] 33)))
    rwa [show (w1.alloc (.cells #[.int .i64 x] 33)).heap.size = w1.heap.size + 1 by simp] at this
  have f3 : F0 (((w1.alloc (.map #[] 0)).alloc (.cells #[.int .i64 x] 33)).drew) w1.heap.size := r1 _ _ (r2 _ _ _ _ (r0 w1))
  have f4 : F1 (insW ((w1.alloc (.map #[] 0)).drew) w1.heap.size 0) w1.heap.size := r5 _ _ f1
  have f5 : F1 ((insW ((w1.alloc (.map #[] 0)).drew) w1.heap.size 0).alloc (.cells #[.int .i64 x] 33)) w1.heap.size := r4 _ _ _ _ (r5 _ _ f1)
  have f6 : F1 (insW ((w1.alloc (.map #[] 0)).drew) w1.heap.size x) w1.heap.size := r6 _ _ f1
  have f7 : F1 ((insW ((w1.alloc (.map #[] 0)).drew) w1.heap.size x).alloc (.cells #[.int .i64 x] 33)) w1.heap.size := r4 _ _ _ _ (r6 _ _ f1)
  have f8 : F1 (insW (((w1.alloc (.cells #[.int .i64 x] 33)).alloc (.map #[] 0)).drew) (w1.heap.size + 1) 0) (w1.heap.size + 1) := r5 _ _ f2
  have f9 : F1 (insW (((w1.alloc (.cells #[.int .i64 x] 33)).alloc (.map #[] 0)).drew) (w1.heap.size + 1) x) (w1.heap.size + 1) := r6 _ _ f2
  have f10 : F1 (insW (((w1.alloc (.map #[] 0)).alloc (.cells #[.int .i64 x] 33)).drew) w1.heap.size 0) w1.heap.size := r5 _ _ f3
  have f11 : F1 (insW (((w1.alloc (.map #[] 0)).alloc (.cells #[.int .i64 x] 33)).drew) w1.heap.size x) w1.heap.size := r6 _ _ f3
  clear r0 r1 r2 r3 r4 r5 r6
  have HZ := Lib.hid hwz
  have HX := Lib.hid hwx
  go_wp2_with fail
  go_cut [5, 6] (fun s5 s6 wx => WStart w1 x s5 s6 wx)
  case first =>
    go_region
    all_goals (go_wp2_with fail; go_meet; first | (refine Pst.done (k := 2) (S := [0, x]) ?_ (.inl rfl); (repeat (first | exact Pst.start _ _ | refine Pst.drew ?_ | refine Pst.cells ?_ | refine Pst.map ?_ | refine Pst.ins ?_ (by first | exact HX.out | exact HZ.out) (by simp))); done) | (refine Pst.done (k := 2) (S := [x, 0]) ?_ (.inr rfl); (repeat (first | exact Pst.start _ _ | refine Pst.drew ?_ | refine Pst.cells ?_ | refine Pst.map ?_ | refine Pst.ins ?_ (by first | exact HX.out | exact HZ.out) (by simp))); done))
  case rest =>
    obtain ⟨lb, mb, rfl, rfl, hr⟩ := WR.start hcut
    have HR := Lib.hid hr
    clear hcut hr u0 u1 u2 u3 s0 s1 s2 s3
    go_wp2_with fail
    go_loopw [5, 7] (fun l i wr => ∃ (k : Nat) (ls : List Int), k ≤ ls.length ∧ i = .int .i64 k ∧ Lw ns x ls k ∧ WR w1 wr mb l ls) (fun _ i _ => x.toNat - (intOf i).toNat)
    case atStart => exact ⟨0, [x], Nat.zero_le _, rfl, Lw.start hx1, HR.out⟩
    case round =>
      obtain ⟨k, ls, hk, rfl, hlw, hrel⟩ := hrel
      have R := Lib.hid hrel
      have L := Lib.hid hlw
      have hlen := hlw.len
      obtain ⟨LA, lcap, rfl⟩ := row_form hrel.row
      clear hrel hlw
      by_cases hlt : k < ls.length
      · obtain ⟨z, hz⟩ : ∃ z, ls[k]? = some z := ⟨_, List.getElem?_eq_getElem hlt⟩
        have hzb := L.out.all z (List.mem_of_getElem? hz)
        obtain ⟨n, hn, _⟩ := nd_some (show isT ns z from ⟨hzb.1, by omega⟩)
        have HLI := Lib.hid (L.out.in_ hz hn)
        have HND := Lib.hid (node_yes wr ab ns foot z n ((HAR.out.below HB1.out).below R.out.below) hn)
        have HWF : Hid (WF ns) := HAR.out.wf
        obtain ⟨vg, vc, hVA, hvg, hvn, hvc, hcj⟩ := rowi_at R.out.row (i := k) (u := .int .i64 z) (by simp [tcells, hz])
        injection hVA with h1 h2 h3
        subst h1; subst h3
        unfold maxLen at hvc
        clear hz hn hzb h2
        go_wp2_with fail
        refine HND.out.mono ?_
        rintro e w2 ⟨rfl, hb⟩
        have R := Lib.hid (R.out.step hb)
        clear hb hcj HND
        go_wp2_with fail
        go_loopw [5, 47] (fun l c wr => ∃ (q : Nat) (ls' : List Int), q ≤ 3 ∧ c = .int .i64 q ∧ Li ns x ls' k z n q ∧ WR w1 wr mb l ls') (fun _ c _ => 3 - (intOf c).toNat)
        case atStart => exact ⟨0, ls, by omega, rfl, HLI.out, R.out.alloc _⟩
        case round =>
          obtain ⟨q, ls', hq, rfl, hli, hrel⟩ := hrel
          have R := Lib.hid hrel
          have LI := Lib.hid hli
          have hlen' := hli.lw.len
          obtain ⟨LA', lcap', rfl⟩ := row_form hrel.row
          clear hrel hli
          by_cases hq3 : q < 3
          · have hix := idx_pt n hq3
            have hpp := pt_part HWF.out LI.out.nd_ hq3
            have hzx := LI.out.lw.all z (List.mem_of_getElem? LI.out.at_)
            have hpx : 0 ≤ pt n q ∧ pt n q ≤ 65536 := by have := HSZ.out; omega
            have HO := Lib.hid (fun (h : InL ls' (pt n q)) => LI.out.old h)
            have HNW := Lib.hid (fun (h : ¬ InL ls' (pt n q)) => LI.out.new HWF.out hq3 h)
            generalize pt n q = p at hix hpx HO HNW hpp
            have hpw : (Lit.int .i64 p).wf = true := WalkArith.wf_i64 (by omega)
            have hkey := keyT hpw
            obtain ⟨S, ⟨D, ho, hh⟩, hS, hm⟩ := R.out.set
            clear hpp hzx LI
            by_cases hin : InL ls' p
            · have hb : Maps.has D (Lit.int .i64 p) = true := by rw [hh p hpw]; exact decide_eq_true ((hm p).2 hin)
              have HL2 := Lib.hid (HO.out hin)
              clear HO HNW hin hm hh
              go_wp2_with (at_lookup; refine wpList_lookup_own_unit _ rfl _ _ SMT rfl 33 SUT keyedT Tryd.underlying106 (zeroUnit _) mb _ D rfl ho _ _ rfl hkey ?_)
              go_roundw
              case rel => exact ⟨q + 1, ls', by omega, by go_num, HL2.out, R.out.alloc _⟩
              case measure => simp [intOf]; omega
            · have hb : Maps.has D (Lit.int .i64 p) = false := by rw [hh p hpw]; exact decide_eq_false (fun h => hin ((hm p).1 h))
              have HL2 := Lib.hid (HNW.out hin)
              have HPUT := Lib.hid (fun (wm wp : World) (g cap' : Nat) (oA oN : Obj) h1 g1 h2 g2 => WR.more (wm := wm) (wp := wp) (g := g) (cap' := cap') (oA := oA) (oN := oN) R.out ho hh hS hm hpw h1 g1 h2 g2)
              have hSl : S.length ≤ 65538 := by have := HSZ.out; omega
              have hll : ls'.length ≤ 65536 := by have := HSZ.out; omega
              have HS1 : Hid (w1.heap.size ≤ wr.heap.size) := R.out.below.size
              clear HO HNW hin hm hh
              go_wp2_with (first
                | (at_lookup; refine wpList_lookup_own_unit _ rfl _ _ SMT rfl 33 SUT keyedT Tryd.underlying106 (zeroUnit _) mb _ D rfl ho _ _ rfl hkey ?_)
                | (at_mapUpdate; refine wpList_mapUpdate_own _ rfl _ _ _ SMT rfl 33 SUT keyedT Tryd.underlying106 (unitElem (H := Unit)) mb S.length D rfl (ho.alloc _) (by unfold maxLen; omega) _ _ _ rfl rfl hkey _ [] unitElem_mk ?_; intro wm hown1 hg1; have HM1 := Lib.hid hown1; have HG1 := Lib.hid hg1; have HROWM := Lib.hid (R.out.rowm ho hg1); have HS2 : Hid (w1.heap.size ≤ wm.heap.size) := (by have := hg1.size; have := HS1.out; simp at *; show w1.heap.size ≤ wm.heap.size; omega); clear hown1 hg1)
                | (at_builtin; refine wpList_append_lies _ rfl _ _ _ rfl w1.heap.size 33 i0 _ 1 8 Tryd.underlying88 HI.out.1 HI.out.2.1 HI.out.2.2.1 HI.out.2.2.2 rfl (by omega) (.slice LA' ls'.length lcap') ls'.length (tcells ls') rfl (HROWM.out.alloc _) ⟨wm.heap.size, 0, none⟩ 1 1 [.int .i64 p] rfl rfl (World.news_of_block (cs := #[.int .i64 p]) (t := 33) (fr := (0, 0)) (heap_alloc_new wm _)) (by simp [Value.oneCell']) (by omega) (by unfold maxLen; omega) (by omega) (by have := HS2.out; simp; omega) (wm.heap.size + 1) (by simp) ?_; intro g cap' wp hown2 hg2 hat hg3; have HO2 := Lib.hid hown2; have HG2 := Lib.hid hg2; clear hown2 hg2 hat hg3))
              go_roundw
              case rel => exact ⟨q + 1, ls' ++ [p], by omega, by go_num, HL2.out, HPUT.out _ _ _ _ _ _ HM1.out HG1.out HO2.out HG2.out⟩
              case measure => simp [intOf]; omega
          · obtain rfl : q = 3 := by omega
            have HLD := Lib.hid LI.out.done
            have hkl : k < ls'.length := (List.getElem?_eq_some_iff.1 LI.out.at_).1
            go_wp2_with fail
            go_roundw
            case rel => exact ⟨k + 1, ls', by omega, by go_num, HLD.out, R.out⟩
            case measure => simp [intOf]; omega
      · obtain rfl : k = ls.length := by omega
        obtain ⟨vg, vc, hVA, hvg, hvn, hvc, _⟩ := rowi_at R.out.row (i := 0) (u := .int .i64 x) (by simp [tcells, L.out.x0])
        injection hVA with h1 h2 h3
        subst h1; subst h3
        have HSO := Lib.hid (sort_any wr w1.heap.size vg lcap ls R.out.row (by have := HSZ.out; omega) (fun z hz => by have := L.out.all z hz; have := HSZ.out; exact WalkArith.wf_i64 (by omega)))
        have HGE : Hid (w1.heap.size ≤ vg) := by
          rcases R.out.row.2 with ⟨e, _⟩ | ⟨g', c', cur, e, hge, _⟩
          · injection e with e; cases e
          · injection e with e _ _
            injection e with e
            injection e with e _
            rw [e]; exact hge
        have HWL := Lib.hid (L.out.sorted (msort_perm ls) (msort_le ls))
        have HML := Lib.hid (msort_len ls)
        unfold maxLen at hvc
        clear h2
        go_wp2_with fail
        refine HSO.out.mono ?_
        rintro e w3 ⟨rfl, hkept, hnums⟩
        have HK := Lib.hid hkept
        have HNU := Lib.hid hnums
        clear hkept hnums
        go_wp2_with fail
        go_ret
        have hb3 : Below w1.heap.size w1 w3 := R.out.below.trans (HK.out.below R.out.below.size (fun k hk e => by have := HGE.out; omega))
        exact ⟨msort ls, vg, lcap, by rw [HML.out]; rfl, HWL.out, HNU.out, HB1.out.trans (hb3.mono HB1.out.size), by rw [HML.out]; exact hvn, by omega, Nat.le_trans HB1.out.size HGE.out⟩
end Go.Proofs.YtgbmiphaabeodaaDoor
