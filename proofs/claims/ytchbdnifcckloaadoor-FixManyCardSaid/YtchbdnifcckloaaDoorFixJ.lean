/-
  What All and Any of package fix do with terms of width 1 that are no numbers and stand once: they are all told, and joined one behind another.
-/
import Derived.Test.YtchbdnifcckloaaDoorFixC
import Derived.Test.YtchbdnifcckloaaDoorFixW
namespace Go.Proofs.YtchbdnifcckloaaDoor
open Go.ChangeShapes Go.WideShapes Go.ChangeAt Go.RowKit
set_option linter.unusedVariables false
attribute [local go_sem ↓] Go.wp_at_zero Go.wp_at_succ

set_option maxHeartbeats 800000 in
set_option maxRecDepth 100000 in
theorem truths_all (W0 w : World) (ab : Nat) (ns : List Nd) (Q : Nat → Prop) (A : Option Addr) (ls : List Int) (cap : Nat) (C : Cur W0 w ab ns Q) (hl : NumsAt .i64 w A ls) (h1 : ∀ z ∈ ls, wdt ns z = 1) (hn : ls.length ≤ cap) (hc : cap ≤ 9223372036854775807) :
    Calls Tryd.prog 60 #[ptr ab, .slice A ls.length cap] w fun e w' => e = .returned (.int .i64 0) ∧ Below w.heap.size w w' := by
  have HC := Lib.hid C
  have HL := Lib.hid hl
  have H1 := Lib.hid h1
  clear C hl h1
  go_enter Tryd.func60, Tryd.ntmps60
  go_wp2_with fail
  go_loopw [5, 10] (fun e i wr => ∃ k : Nat, k ≤ ls.length ∧ i = .int .i64 k ∧ e = .int .i64 0 ∧ Below w.heap.size w wr) (fun _ i _ => ls.length - (intOf i).toNat)
  case atStart => exact ⟨0, Nat.zero_le _, rfl, rfl, Below.refl _ _⟩
  case round =>
    obtain ⟨k, hk, rfl, rfl, hrel⟩ := hrel
    have R := Lib.hid hrel
    clear hrel
    by_cases hlt : k < ls.length
    · obtain ⟨z, hz⟩ : ∃ z, ls[k]? = some z := ⟨_, List.getElem?_eq_getElem hlt⟩
      obtain ⟨a, rfl, hca⟩ := (HL.out.keep R.out).get k z hz
      have HW := Lib.hid (r_width (HC.out.below R.out) z)
      rw [H1.out z (List.mem_of_getElem? hz)] at HW
      clear hz
      go_wp2_with fail
      refine HW.out.mono ?_
      rintro e w2 ⟨rfl, hb⟩
      have R := Lib.hid (R.out.trans (hb.mono R.out.size))
      clear hb HW
      go_wp2_with fail
      go_roundw
      case rel => exact ⟨k + 1, by omega, by go_num, rfl, R.out⟩
      case measure => simp [intOf]; omega
    · obtain rfl : k = ls.length := by omega
      go_wp2_with fail
      go_ret
      exact ⟨rfl, R.out⟩
structure TR (w1 wr : World) (mb : Nat) (l : Value) (ls : List Int) : Prop where
  row : wr.ownsRow w1.heap.size 33 1 l ls.length (tcells ls)
  set : ∃ S, SetAt S wr mb ∧ S.length = ls.length ∧ ∀ z, z ∈ S ↔ z ∈ ls
  below : Below w1.heap.size w1 wr
  ge : w1.heap.size ≤ mb
theorem TR.step {w1 wr W : World} {mb : Nat} {l : Value} {ls : List Int} (h : TR w1 wr mb l ls) (hb : Below wr.heap.size wr W) : TR w1 W mb l ls := by
  obtain ⟨S, hs, h4, h5⟩ := h.set
  exact ⟨row_from h.row hb, ⟨S, hs.same (hb.block _ hs.lt), h4, h5⟩, h.below.trans (hb.mono h.below.size), h.ge⟩
theorem TR.alloc {w1 wr : World} {mb : Nat} {l : Value} {ls : List Int} (h : TR w1 wr mb l ls) (o : Obj) : TR w1 (wr.alloc o) mb l ls := h.step ((Below.refl _ _).alloc (Nat.le_refl _) _)
theorem TR.more {w1 wr wm wp : World} {mb cap g cap' : Nat} {LA : Option Addr} {ls S : List Int} {D : DataW Unit} {p : Int} {oA oN : Obj} (R : TR w1 wr mb (.slice LA ls.length cap) ls)
    (ho : wr.ownsMap Tryd.prog 33 (unitElem (H := Unit)) mb S.length D) (hh : ∀ z, (Lit.int .i64 z).wf = true → Maps.has D (.int .i64 z) = decide (z ∈ S)) (hS : S.length = ls.length) (hm : ∀ z, z ∈ S ↔ z ∈ ls) (hp : (Lit.int .i64 p).wf = true)
    (h1 : wm.ownsMap Tryd.prog 33 (unitElem (H := Unit)) mb (S.length + 1) (D.put (.int .i64 p) (.agg []))) (g1 : (wr.alloc oA).grownBy wm (some mb))
    (h2 : wp.ownsRow w1.heap.size 33 1 (.slice (some ⟨g, 0, none⟩) (ls.length + 1) cap') (ls.length + 1) (tcells ls ++ [.int .i64 p])) (g2 : (wm.alloc oN).grownBy wp (Value.ownBlock (.slice LA ls.length cap))) :
    TR w1 wp mb (.slice (some ⟨g, 0, none⟩) (ls.length + 1) cap') (ls ++ [p]) := by
  have hl : (ls ++ [p]).length = ls.length + 1 := by simp
  have s1 := R.below.size
  have s2 := g1.size
  have s3 := g2.size
  simp at s2 s3
  have hset := SetAt.of_put ho.isMap hp hh h1
  have hne : Value.ownBlock (.slice LA ls.length cap) ≠ some mb := fun e => by
    obtain ⟨cur, hc⟩ := row_block R.row e
    exact not_map ho hc rfl
  refine ⟨by rw [hl]; unfold tcells; rw [List.map_append]; exact h2, ⟨p :: S, hset.same ?_, by rw [hl, List.length_cons, hS], fun z => ?_⟩, ?_, R.ge⟩
  · exact (g2.block mb (by have := hset.lt; simp; omega) (fun e => hne e.symm)).trans (alloc_other hset.lt)
  · rw [List.mem_cons, List.mem_append, List.mem_singleton, hm]
    exact or_comm
  · have b1 := (R.below.alloc R.below.size oA).grown g1 (by simp; omega) (fun k e => by injection e with e; subst e; exact R.ge)
    refine (b1.alloc b1.size oN).grown g2 (by simp; omega) (fun k e => ?_)
    rcases R.row.2 with ⟨e2, _⟩ | ⟨g', c', cur, e2, hge, _⟩
    · rw [e2] at e; cases e
    · rw [e2] at e
      have : g' = k := by simpa [Value.ownBlock] using e
      omega
theorem TR.rowm {w1 wr wm : World} {mb cap : Nat} {LA : Option Addr} {ls : List Int} {n : Nat} {D : DataW Unit} {oA : Obj} (R : TR w1 wr mb (.slice LA ls.length cap) ls) (ho : wr.ownsMap Tryd.prog 33 (unitElem (H := Unit)) mb n D) (g1 : (wr.alloc oA).grownBy wm (some mb)) :
    wm.ownsRow w1.heap.size 33 1 (.slice LA ls.length cap) ls.length (tcells ls) := row_same R.row (fun b hb => by
  obtain ⟨cur, hc⟩ := row_block R.row hb
  exact (g1.block b (by have := hc.lt; simp; omega) (fun e => by injection e with e; exact not_map ho hc e.symm)).trans (alloc_other hc.lt))
theorem tr_start (w : World) : TR w (w.alloc (.map #[] 0)) w.heap.size (.slice none 0 0) [] :=
  ⟨⟨rfl, .inl ⟨rfl, rfl⟩⟩, ⟨[], SetAt.made w, rfl, fun z => Iff.rfl⟩, (Below.refl _ _).alloc (Nat.le_refl _) _, Nat.le_refl _⟩
def TelPost (w : World) (ls : List Int) (e : Ending) (w' : World) : Prop := ∃ l : Value, e = .returned l ∧ w'.ownsRow w.heap.size 33 1 l ls.length (tcells ls) ∧ Below w.heap.size w w'
set_option maxHeartbeats 1600000 in
set_option maxRecDepth 100000 in
theorem telling_all (W0 w : World) (ab : Nat) (ns : List Nd) (Q : Nat → Prop) (A : Option Addr) (ls : List Int) (cap : Nat) (v : Int) (C : Cur W0 w ab ns Q) (hl : NumsAt .i64 w A ls) (h1 : ∀ z ∈ ls, ¬ isC ns z) (hd : ls.Nodup) (hsm : ls.length ≤ 60) (hn : ls.length ≤ cap) (hc : cap ≤ 9223372036854775807) :
    Calls Tryd.prog 61 #[ptr ab, .int .u16 v, .slice A ls.length cap] w (TelPost w ls) := by
  have HC := Lib.hid C
  have HL := Lib.hid hl
  have H1 := Lib.hid h1
  have HD := Lib.hid hd
  have hmm := @run_makeMap Tryd.prog
  obtain ⟨i0, hi0, hz0, hz1, hz2⟩ := info_parts infoT
  have HI := Lib.hid (And.intro hi0 (And.intro hz0 (And.intro hz1 hz2)))
  clear C hl h1 hd hi0 hz0 hz1 hz2
  go_enter Tryd.func61, Tryd.ntmps61
  go_wp2_with fail
  go_loopw [7, 18] (fun r i wr => ∃ k : Nat, k ≤ ls.length ∧ i = .int .i64 k ∧ TR w wr w.heap.size r (ls.take k)) (fun _ i _ => ls.length - (intOf i).toNat)
  case atStart => exact ⟨0, Nat.zero_le _, rfl, tr_start w⟩
  case round =>
    obtain ⟨k, hk, rfl, hrel⟩ := hrel
    have htk : (ls.take k).length = k := by rw [List.length_take]; omega
    obtain ⟨LA, lcap, rfl⟩ := row_form hrel.row
    have R := Lib.hid hrel
    clear hrel
    by_cases hlt : k < ls.length
    · obtain ⟨z, hz⟩ : ∃ z, ls[k]? = some z := ⟨_, List.getElem?_eq_getElem hlt⟩
      obtain ⟨a, rfl, hca⟩ := (HL.out.keep R.out.below).get k z hz
      have hzm := List.mem_of_getElem? hz
      have hpw := HL.out.wf z hzm
      have HKN := Lib.hid (r_known_no (HC.out.below R.out.below) z (H1.out z hzm))
      have hin : z ∉ ls.take k := fun h => by
        obtain ⟨j, hj⟩ := List.getElem?_of_mem h
        have hjk : j < k := by have := (List.getElem?_eq_some_iff.1 hj).1; omega
        rw [List.getElem?_take_of_lt hjk] at hj
        have := (List.getElem?_inj (by omega) HD.out).1 (hj.trans hz.symm)
        omega
      have HTK : Hid (ls.take (k + 1) = ls.take k ++ [z]) := by show _ = _; rw [List.take_add_one, hz]; rfl
      clear hz hzm
      go_wp2_with fail
      refine HKN.out.mono ?_
      rintro e w2 ⟨rfl, hb2⟩
      have R := Lib.hid (R.out.step hb2)
      clear hb2 HKN hca
      generalize ls.take k = tk at *
      subst htk
      obtain ⟨S, ⟨D, ho, hh⟩, hS, hm⟩ := R.out.set
      have hkey := keyT hpw
      have hb : Maps.has D (Lit.int .i64 z) = false := by rw [hh z hpw]; exact decide_eq_false (fun h => hin ((hm z).1 h))
      have HPUT := Lib.hid (fun (wm wp : World) (g cap' : Nat) (oA oN : Obj) h1 g1 h2 g2 => TR.more (wm := wm) (wp := wp) (g := g) (cap' := cap') (oA := oA) (oN := oN) R.out ho hh hS hm hpw h1 g1 h2 g2)
      have hSl : S.length ≤ 60 := by omega
      have hll : tk.length ≤ 60 := by omega
      have HS1 : Hid (w.heap.size ≤ w2.heap.size) := R.out.below.size
      clear hin hm hh
      go_wp2_with (first
        | (at_lookup; refine wpList_lookup_own_unit _ rfl _ _ SMT rfl 33 SUT keyedT Tryd.underlying114 (zeroUnit _) w.heap.size _ D rfl ho _ _ rfl hkey ?_)
        | (at_mapUpdate; refine wpList_mapUpdate_own _ rfl _ _ _ SMT rfl 33 SUT keyedT Tryd.underlying114 (unitElem (H := Unit)) w.heap.size S.length D rfl (ho.alloc _) (by unfold maxLen; omega) _ _ _ rfl rfl hkey _ [] unitElem_mk ?_; intro wm hown1 hg1; have HM1 := Lib.hid hown1; have HG1 := Lib.hid hg1; have HROWM := Lib.hid (R.out.rowm ho hg1); have HS2 : Hid (w.heap.size ≤ wm.heap.size) := (by have := hg1.size; have := HS1.out; simp at *; show w.heap.size ≤ wm.heap.size; omega); clear hown1 hg1)
        | (at_builtin; refine wpList_append_lies _ rfl _ _ _ rfl w.heap.size 33 i0 _ 1 8 Tryd.underlying54 HI.out.1 HI.out.2.1 HI.out.2.2.1 HI.out.2.2.2 rfl (by omega) (.slice LA tk.length lcap) tk.length (tcells tk) rfl (HROWM.out.alloc _) ⟨wm.heap.size, 0, none⟩ 1 1 [.int .i64 z] rfl rfl (World.news_of_block (cs := #[.int .i64 z]) (t := 33) (fr := (0, 0)) (heap_alloc_new wm _)) (by simp [Value.oneCell']) (by omega) (by unfold maxLen; omega) (by omega) (by have := HS2.out; simp; omega) (wm.heap.size + 1) (by simp) ?_; intro g cap' wp hown2 hg2 hat hg3; have HO2 := Lib.hid hown2; have HG2 := Lib.hid hg2; clear hown2 hg2 hat hg3))
      go_roundw
      case rel => exact ⟨tk.length + 1, by omega, by go_num, by rw [HTK.out]; exact HPUT.out _ _ _ _ _ _ HM1.out HG1.out HO2.out HG2.out⟩
      case measure => simp [intOf]; omega
    · obtain rfl : k = ls.length := by omega
      go_wp2_with fail
      go_ret
      refine ⟨_, rfl, ?_, R.out.below⟩
      have := R.out.row
      rw [List.take_length] at this ⊢
      exact this
end Go.Proofs.YtchbdnifcckloaaDoor
