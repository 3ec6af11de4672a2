/-
  The law FixWhole: with all variables put in a term is the number that it has under them. No condition.
-/
import Derived.Test.YtchbdnifcckloaaDoorTermBuildAll
import Derived.Test.YtchbdnifcckloaaDoorTermZ
import Derived.Test.YtchbdnifcckloaaDoorTermO
import Derived.Test.YtchbdnifcckloaaDoorFixB
import Derived.Test.YtchbdnifcckloaaDoorCards
import Derived.SevenTiedAt
namespace Go.Proofs.YtchbdnifcckloaaDoor.fixWhole
open Go.ChangeShapes Go.WideShapes Go.ChangeAt Go.RowKit
set_option linter.unusedVariables false

theorem nums_row {k : IntKind} {w : World} {base : Nat} {e : TypeId} {A : Option Addr} {n cap : Nat} {zs : List Int} (h : w.ownsRow base e 1 (.slice A n cap) n (zs.map (Value.int k))) (hw : ∀ z ∈ zs, (Lit.int k z).wf = true) : NumsAt k w A zs := by
  have hxn : zs.length = n := by have := h.1; simpa using this
  rcases h.2 with ⟨e, h0⟩ | ⟨g, cap', cur, e, _, hh, hn, hc, hsz, ht⟩
  · injection e with e1 _ _
    subst e1
    have : zs = [] := List.length_eq_zero_iff.1 (by omega)
    subst this
    exact ⟨fun i v hv => by simp at hv, (fun a ha => by cases ha), hw⟩
  · injection e with e1 e2 e3
    subst e1
    refine ⟨fun i v hv => ⟨_, rfl, ?_⟩, (fun a ha => by injection ha with ha; subst ha; exact lt_of_heap hh), hw⟩
    have hx : Has w g _ cur := hh
    have hi : i < zs.length := (List.getElem?_eq_some_iff.1 hv).1
    have : (zs.map (Value.int k))[i]? = some (.int k v) := by rw [List.getElem?_map, hv]; rfl
    rw [show (⟨g, 0, none⟩ : Addr).add i = ⟨g, i, none⟩ from (by simp only [Addr.add]; simp; exact fun e => e.symm), hx.cell, ← this, ← ht, List.getElem?_take_of_lt (by omega)]
    simp
/-- An assignment's first numbers. -/
def evs (env : List Int) (j : Nat) : List Int := (List.range j).map fun i => env.getD i 0
def ids (j : Nat) : List Int := (List.range j).map fun (i : Nat) => (i : Int)
theorem evs_len (env : List Int) (j : Nat) : (evs env j).length = j := by simp [evs]
theorem ids_len (j : Nat) : (ids j).length = j := by simp [ids]
theorem evs_succ (env : List Int) (j : Nat) : evs env (j + 1) = evs env j ++ [env.getD j 0] := by simp [evs, List.range_succ]
theorem ids_succ (j : Nat) : ids (j + 1) = ids j ++ [(j : Int)] := by simp [ids, List.range_succ]
theorem gof_all (env : List Int) : ∀ n : Nat, n ≤ 64 → ∀ i : Nat, gof ((ids n).zip (evs env n)) i = if i < n then some (env.getD i 0) else none := by
  intro n
  induction n with
  | zero => intro _ i; simp [ids, gof]
  | succ n ih =>
    intro hn i
    have e : (ids (n + 1)).zip (evs env (n + 1)) = (ids n).zip (evs env n) ++ [((n : Int), env.getD n 0)] := by
      rw [ids_succ, evs_succ, List.zip_append (by rw [ids_len, evs_len])]; rfl
    rw [e, gof_snoc]
    have h0 := ih (by omega) n
    rw [if_neg (Nat.lt_irrefl _)] at h0
    unfold gput
    rw [if_pos ⟨by omega, by omega, by rw [Int.toNat_natCast]; exact h0⟩, Int.toNat_natCast]
    by_cases hi : i = n
    · subst hi; simp
    · simp only [if_neg hi]
      rw [ih (by omega) i]
      by_cases h : i < n
      · rw [if_pos h, if_pos (by omega)]
      · rw [if_neg h, if_neg (by omega)]
theorem env_rng {w : World} {A : Option Addr} {env : List Int} (h : EnvAt w A env) (j : Nat) : ∀ v ∈ evs env j, 0 ≤ v ∧ v ≤ 65535 := fun v hv => by
  obtain ⟨i, _, rfl⟩ := List.mem_map.1 hv
  exact h.getD i
/-- Lists of ids and numbers that the law builds. -/
structure IV (w3 wr : World) (env : List Int) (j : Nat) (a b : Value) : Prop where
  i : wr.ownsRow w3.heap.size 3 1 a j ((ids j).map (Value.int .i64))
  v : wr.ownsRow w3.heap.size 31 1 b j (u16s (evs env j))
  below : Below w3.heap.size w3 wr
theorem IV.step {w3 wr w1 w2 : World} {env : List Int} {j icap vcap g1 c1 g2 c2 : Nat} {I V : Option Addr} {o1 o2 : Obj} (h : IV w3 wr env j (.slice I j icap) (.slice V j vcap))
    (h1 : w1.ownsRow w3.heap.size 3 1 (.slice (some ⟨g1, 0, none⟩) (j + 1) c1) (j + 1) ((ids j).map (Value.int .i64) ++ [.int .i64 (j : Int)])) (k1 : (wr.alloc o1).grownBy w1 (Value.ownBlock (.slice I j icap)))
    (h2 : w2.ownsRow w3.heap.size 31 1 (.slice (some ⟨g2, 0, none⟩) (j + 1) c2) (j + 1) (u16s (evs env j) ++ [.int .u16 (env.getD j 0)])) (k2 : (w1.alloc o2).grownBy w2 (Value.ownBlock (.slice V j vcap))) :
    IV w3 w2 env (j + 1) (.slice (some ⟨g1, 0, none⟩) (j + 1) c1) (.slice (some ⟨g2, 0, none⟩) (j + 1) c2) := by
  have s0 := h.below.size
  have s1 := k1.size
  have s2 := k2.size
  simp at s1 s2
  have vb : ∀ {g : Nat}, Value.ownBlock (.slice V j vcap) = some g → w3.heap.size ≤ g := fun {g} e => by
    rcases h.v.2 with ⟨e2, _⟩ | ⟨g', c', cur, e2, hge, _⟩
    · rw [e2] at e; cases e
    · rw [e2] at e
      have : g' = g := by simpa [Value.ownBlock] using e
      omega
  have ib : ∀ {g : Nat}, Value.ownBlock (.slice I j icap) = some g → w3.heap.size ≤ g := fun {g} e => by
    rcases h.i.2 with ⟨e2, _⟩ | ⟨g', c', cur, e2, hge, _⟩
    · rw [e2] at e; cases e
    · rw [e2] at e
      have : g' = g := by simpa [Value.ownBlock] using e
      omega
  refine ⟨?_, ?_, ?_⟩
  · rw [ids_succ, List.map_append]
    refine row_same h1 fun b hb => ?_
    obtain ⟨cur, hc⟩ := row_block h1 hb
    refine (k2.block b (by have := hc.lt; simp; omega) (fun e => ?_)).trans (alloc_other hc.lt)
    obtain ⟨cur2, hc2⟩ := row_block h.v e.symm
    have hc3 : Has w1 b 31 cur2 := by
      refine (hc2.same (alloc_other hc2.lt)).same (k1.block b (by have := hc2.lt; simp; omega) (fun e3 => ?_))
      obtain ⟨cur4, hc4⟩ := row_block h.i e3.symm
      exact hc4.unlike hc2 (by decide) rfl
    exact hc.unlike hc3 (by decide) rfl
  · rw [evs_succ]
    have : u16s (evs env j ++ [env.getD j 0]) = u16s (evs env j) ++ [.int .u16 (env.getD j 0)] := by simp [u16s]
    rw [this]; exact h2
  · have b1 := (h.below.alloc s0 o1).grown k1 (by simp; omega) (fun k e => ib e)
    exact (b1.alloc b1.size o2).grown k2 (by simp; omega) (fun k e => vb e)
theorem IV.vrow {w3 wr w1 : World} {env : List Int} {j icap vcap : Nat} {I V : Option Addr} {o1 : Obj} (h : IV w3 wr env j (.slice I j icap) (.slice V j vcap)) (k1 : (wr.alloc o1).grownBy w1 (Value.ownBlock (.slice I j icap))) :
    w1.ownsRow w3.heap.size 31 1 (.slice V j vcap) j (u16s (evs env j)) := row_same h.v fun b hb => by
  obtain ⟨cur2, hc2⟩ := row_block h.v hb
  refine (k1.block b (by have := hc2.lt; simp; omega) (fun e3 => ?_)).trans (alloc_other hc2.lt)
  obtain ⟨cur4, hc4⟩ := row_block h.i e3.symm
  exact hc4.unlike hc2 (by decide) rfl
theorem all_const {ns : List Nd} (hwf : WF ns) {x : Int} (hx : isT ns x) {g : Nat → Option Int} {env : List Int} (hg : ∀ i : Nat, i < 64 → g i = some (env.getD i 0)) : (tr ns x).sub g = Tr.mkC (wdt ns x) (V ns env x) := by
  have hw := tr_wf hwf x
  have so := Tr.sub_ok g hw
  have cf := Tr.const_form so.wf (Tr.sub_const g hw fun i hi _ => by rw [hg i hi]; simp) (so.ne (tr_some hwf hx))
  rw [so.w, tr_w hwf, so.ev [] env (fun i hi => by rw [hg i hi]), tr_ev hwf] at cf
  exact cf
/-- What holds at each round's head of the law's last loop. -/
structure LB (w1 w4 wr : World) (ab : Nat) (ns : List Nd) (Q : Nat → Prop) (k : Nat) (nsk : List Nd) : Prop where
  cur : Cur w1 wr ab nsk Q
  ext : ∃ l, nsk = ns ++ l
  len : nsk.length ≤ ns.length + k
  q : ∀ b, Q b → wr.heap[b]? = w4.heap[b]?
  sz : w4.heap.size ≤ wr.heap.size
theorem LB.next {w1 w4 wr w' : World} {ab : Nat} {ns nsk nsk' : List Nd} {Q : Nat → Prop} {k : Nat} (h : LB w1 w4 wr ab ns Q k nsk) (N : NxtK 1 w1 wr ab nsk Q w' nsk') : LB w1 w4 w' ab ns Q (k + 1) nsk' :=
  ⟨N.cur, by
    obtain ⟨l, rfl⟩ := h.ext
    obtain ⟨m, rfl⟩ := N.ext
    exact ⟨l ++ m, by rw [List.append_assoc]⟩, by have := h.len; have := N.len; omega, fun b hb => (N.q b hb).trans (h.q b hb), Nat.le_trans h.sz N.sz⟩
theorem LB.below {w1 w4 wr w' : World} {ab : Nat} {ns nsk : List Nd} {Q : Nat → Prop} {k : Nat} (h : LB w1 w4 wr ab ns Q k nsk) (hb : Below wr.heap.size wr w') : LB w1 w4 w' ab ns Q k nsk :=
  ⟨h.cur.below hb, h.ext, h.len, fun b hq => (hb.block b (h.cur.q_lt b hq)).trans (h.q b hq), Nat.le_trans h.sz hb.size⟩

set_option maxHeartbeats 3200000 in
set_option maxRecDepth 100000 in
theorem walk (v0 : Value) (v1 : Value) (w : World) (w0 : RowsIn w v0) (w1 : EnvIn w v1) (hT : Tab w) (hpos : 0 < w.heap.size) :
    Calls Tryd.prog 8 #[v0, v1] w fun e w' => e = .returned (.bool true) ∧ Below w.heap.size w w' := by
  obtain ⟨A, rs, cap, rfl, hc1, hc2, hRb, hR⟩ := w0
  obtain ⟨EA, env, ecap, rfl, he1, he2, hE⟩ := w1
  have HR := Lib.hid hR
  have HRB := Lib.hid hRb
  have HE0 := Lib.hid hE
  have HT := Lib.hid hT
  clear hR hE hRb
  by_cases hb1 : 80 < rs.length
  · go_enter Tryd.func8, Tryd.ntmps8
    go_wp2_with fail
    refine (awake3_any _ hT hpos).mono ?_
    rintro e w1 ⟨rfl, hb⟩
    go_wp2_with fail
    go_ret
    exact ⟨rfl, hb⟩
  by_cases hb2 : 60 < env.length
  · go_enter Tryd.func8, Tryd.ntmps8
    go_wp2_with fail
    refine (awake3_any _ hT hpos).mono ?_
    rintro e w1 ⟨rfl, hb⟩
    go_wp2_with fail
    go_ret
    exact ⟨rfl, hb⟩
  have hb1' : rs.length ≤ 80 := by omega
  have hb2' : env.length ≤ 60 := by omega
  clear hb1 hb2
  obtain ⟨i0, hi0, hz0, hz1, hz2⟩ := info_parts info3
  have HI := Lib.hid (And.intro hi0 (And.intro hz0 (And.intro hz1 hz2)))
  clear hi0 hz0 hz1 hz2
  obtain ⟨j0, hi0, hz0, hz1, hz2⟩ := info_parts infoU
  have HJ := Lib.hid (And.intro hi0 (And.intro hz0 (And.intro hz1 hz2)))
  clear hi0 hz0 hz1 hz2
  go_enter Tryd.func8, Tryd.ntmps8
  go_wp2_with fail
  refine (awake3_any _ hT hpos).mono ?_
  rintro e w1 ⟨rfl, hb⟩
  have HB1 := Lib.hid hb
  have HR1 := Lib.hid (HR.out.from_ HRB.out hb)
  clear hb hT
  go_wp2_with fail
  refine (new_any _).mono ?_
  rintro e w2 ⟨rfl, ha, hb⟩
  have HC := Lib.hid (Cur.of_new ha hb)
  clear ha hb
  go_wp2_with fail
  refine (build_any w1 w2 _ cap A rs HC.out HR1.out (by omega) hc1 hc2).mono ?_
  rintro e w3 ⟨ns, ms, LA, lcap, rfl, C3, row3, mok, ml, nl⟩
  have HC3 := Lib.hid C3
  have HROW := Lib.hid row3
  have HMOK := Lib.hid mok
  have hml : ms.length ≤ 200 := by omega
  have HNL := Lib.hid nl
  have HB3 : Hid (Below w.heap.size w w3) := HB1.out.trans (C3.below0.mono HB1.out.size)
  have HE3 := Lib.hid (HE0.out.from_ HB3.out)
  clear C3 row3 mok nl ml
  go_wp2_with fail
  go_loopw [8, 9, 10] (fun a b i wr => ∃ j : Nat, j ≤ 64 ∧ i = .int .i64 j ∧ IV w3 wr env j a b) (fun _ _ i _ => 64 - (intOf i).toNat)
  case atStart => exact ⟨0, by omega, rfl, ⟨⟨rfl, .inl ⟨rfl, rfl⟩⟩, ⟨rfl, .inl ⟨rfl, rfl⟩⟩, Below.refl _ _⟩⟩
  case round =>
    obtain ⟨j, hj, rfl, hrel⟩ := hrel
    obtain ⟨I, icap, rfl⟩ := row_form hrel.i
    obtain ⟨VB, vcap, rfl⟩ := row_form hrel.v
    have R := Lib.hid hrel
    clear hrel
    by_cases hjl : j < 64
    · have HS0 : Hid (w3.heap.size ≤ wr.heap.size) := R.out.below.size
      have HRI := Lib.hid R.out.i
      have HVR := Lib.hid (fun (w1 : World) (o1 : Obj) k1 => IV.vrow (w1 := w1) (o1 := o1) R.out k1)
      have HST := Lib.hid (fun (w1 w2 : World) (g1 c1 g2 c2 : Nat) (o1 o2 : Obj) h1 k1 h2 k2 => IV.step (w1 := w1) (w2 := w2) (g1 := g1) (c1 := c1) (g2 := g2) (c2 := c2) (o1 := o1) (o2 := o2) R.out h1 k1 h2 k2)
      by_cases hje : j < env.length
      · obtain ⟨ad, rfl, had, hce, e0, e1⟩ := (HE3.out.from_ R.out.below).at hje
        generalize env.getD j 0 = ev at hce e0 e1 HST
        go_wp2_with (first
          | (at_builtin; refine wpList_append_lies _ rfl _ _ _ rfl w3.heap.size 3 i0 _ 1 8 Tryd.underlying42 HI.out.1 HI.out.2.1 HI.out.2.2.1 HI.out.2.2.2 rfl (by omega) (.slice I j icap) j ((ids j).map (Value.int .i64)) rfl (HRI.out.alloc _) ⟨wr.heap.size, 0, none⟩ 1 1 [.int .i64 (j : Int)] rfl rfl (World.news_of_block (cs := #[.int .i64 (j : Int)]) (t := 3) (fr := (0, 0)) (heap_alloc_new wr _)) (by simp [Value.oneCell']) (by omega) (by unfold maxLen; omega) (by omega) (by have := HS0.out; simp; omega) (wr.heap.size + 1) (by simp) ?_; intro g1 c1 wp hown1 hg1 hat1 hlt1; have HO1 := Lib.hid hown1; have HG1 := Lib.hid hg1; have HV1 := Lib.hid (HVR.out wp _ hg1); have HS1 : Hid (w3.heap.size ≤ wp.heap.size) := (by have := hg1.size; have := HS0.out; simp at *; show w3.heap.size ≤ wp.heap.size; omega); clear hown1 hg1 hat1 hlt1)
          | (at_builtin; refine wpList_append_lies _ rfl _ _ _ rfl w3.heap.size 31 j0 _ 1 2 Tryd.underlying23 HJ.out.1 HJ.out.2.1 HJ.out.2.2.1 HJ.out.2.2.2 rfl (by omega) (.slice VB j vcap) j (u16s (evs env j)) rfl (HV1.out.alloc _) ⟨wp.heap.size, 0, none⟩ 1 1 [.int .u16 ev] rfl rfl (World.news_of_block (cs := #[.int .u16 ev]) (t := 31) (fr := (0, 0)) (heap_alloc_new wp _)) (by simp [Value.oneCell']) (by omega) (by unfold maxLen; omega) (by omega) (by have := HS1.out; simp; omega) (wp.heap.size + 1) (by simp) ?_; intro g2 c2 wq hown2 hg2 hat2 hlt2; have HO2 := Lib.hid hown2; have HG2 := Lib.hid hg2; clear hown2 hg2 hat2 hlt2))
        go_roundw
        case rel => exact ⟨j + 1, by omega, by go_num, HST.out _ _ _ _ _ _ _ _ HO1.out HG1.out HO2.out HG2.out⟩
        case measure => simp [intOf]; omega
      · have e0 : env.getD j 0 = 0 := by rw [List.getD_eq_getElem?_getD, List.getElem?_eq_none (by omega)]; rfl
        have hje' : env.length ≤ j := by omega
        rw [e0] at HST
        clear hje e0
        go_wp2_with (first
          | (at_builtin; refine wpList_append_lies _ rfl _ _ _ rfl w3.heap.size 3 i0 _ 1 8 Tryd.underlying42 HI.out.1 HI.out.2.1 HI.out.2.2.1 HI.out.2.2.2 rfl (by omega) (.slice I j icap) j ((ids j).map (Value.int .i64)) rfl (HRI.out.alloc _) ⟨wr.heap.size, 0, none⟩ 1 1 [.int .i64 (j : Int)] rfl rfl (World.news_of_block (cs := #[.int .i64 (j : Int)]) (t := 3) (fr := (0, 0)) (heap_alloc_new wr _)) (by simp [Value.oneCell']) (by omega) (by unfold maxLen; omega) (by omega) (by have := HS0.out; simp; omega) (wr.heap.size + 1) (by simp) ?_; intro g1 c1 wp hown1 hg1 hat1 hlt1; have HO1 := Lib.hid hown1; have HG1 := Lib.hid hg1; have HV1 := Lib.hid (HVR.out wp _ hg1); have HS1 : Hid (w3.heap.size ≤ wp.heap.size) := (by have := hg1.size; have := HS0.out; simp at *; show w3.heap.size ≤ wp.heap.size; omega); clear hown1 hg1 hat1 hlt1)
          | (at_builtin; refine wpList_append_lies _ rfl _ _ _ rfl w3.heap.size 31 j0 _ 1 2 Tryd.underlying23 HJ.out.1 HJ.out.2.1 HJ.out.2.2.1 HJ.out.2.2.2 rfl (by omega) (.slice VB j vcap) j (u16s (evs env j)) rfl (HV1.out.alloc _) ⟨wp.heap.size, 0, none⟩ 1 1 [.int .u16 0] rfl rfl (World.news_of_block (cs := #[.int .u16 0]) (t := 31) (fr := (0, 0)) (heap_alloc_new wp _)) (by simp [Value.oneCell']) (by omega) (by unfold maxLen; omega) (by omega) (by have := HS1.out; simp; omega) (wp.heap.size + 1) (by simp) ?_; intro g2 c2 wq hown2 hg2 hat2 hlt2; have HO2 := Lib.hid hown2; have HG2 := Lib.hid hg2; clear hown2 hg2 hat2 hlt2))
        go_roundw
        case rel => exact ⟨j + 1, by omega, by go_num, HST.out _ _ _ _ _ _ _ _ HO1.out HG1.out HO2.out HG2.out⟩
        case measure => simp [intOf]; omega
    · obtain rfl : j = 64 := by omega
      have HRB4 : Hid (Below w3.heap.size w3 wr) := R.out.below
      go_wp2_with fail
      refine (values_law wr _ lcap ecap LA EA ns ms env (row_from HROW.out HRB4.out) HMOK.out HC3.out.wf (HE3.out.from_ HRB4.out) hml).mono ?_
      rintro e w4 ⟨WA, wcap, rfl, own4, hb4⟩
      rw [vl_len] at own4
      have hwl : (vl ns ms env).length = ms.length := vl_len ns ms env
      have hwc : ms.length ≤ wcap ∧ wcap ≤ 9223372036854775807 ∨ ms.length = 0 := by
        rcases own4.2 with ⟨_, h0⟩ | ⟨g, c, cur, e, _, _, h1, h2, _⟩
        · exact .inr h0
        · injection e with _ _ e; subst e; unfold maxLen at h2; exact .inl ⟨h1, by omega⟩
      have HQ : Hid (∃ Q : Nat → Prop, Cur w1 w4 w1.heap.size ns Q ∧ (∀ b, Value.ownBlock (.slice LA ms.length lcap) = some b → Q b) ∧ (∀ b, Value.ownBlock (.slice I 64 icap) = some b → Q b) ∧ (∀ b, Value.ownBlock (.slice VB 64 vcap) = some b → Q b) ∧ (∀ b, Value.ownBlock (.slice WA ms.length wcap) = some b → Q b)) := by
        refine ⟨fun b => Value.ownBlock (.slice LA ms.length lcap) = some b ∨ (w3.heap.size ≤ b ∧ b < w4.heap.size), HC3.out.more (.inr trivial) (Nat.le_refl _) (fun b hb => hb) (HRB4.out.trans (hb4.mono HRB4.out.size)), fun b hb => .inl hb, fun b hb => ?_, fun b hb => ?_, fun b hb => ?_⟩
        · refine .inr ⟨?_, ?_⟩
          · rcases R.out.i.2 with ⟨e2, _⟩ | ⟨g', c', cur, e2, hge, _⟩
            · rw [e2] at hb; cases hb
            · rw [e2] at hb
              have : g' = b := by simpa [Value.ownBlock] using hb
              omega
          · obtain ⟨cur, hc⟩ := row_block R.out.i hb
            exact Nat.lt_of_lt_of_le hc.lt hb4.size
        · refine .inr ⟨?_, ?_⟩
          · rcases R.out.v.2 with ⟨e2, _⟩ | ⟨g', c', cur, e2, hge, _⟩
            · rw [e2] at hb; cases hb
            · rw [e2] at hb
              have : g' = b := by simpa [Value.ownBlock] using hb
              omega
          · obtain ⟨cur, hc⟩ := row_block R.out.v hb
            exact Nat.lt_of_lt_of_le hc.lt hb4.size
        · refine .inr ⟨?_, ?_⟩
          · rcases own4.2 with ⟨e2, _⟩ | ⟨g', c', cur, e2, hge, _⟩
            · rw [e2] at hb; cases hb
            · rw [e2] at hb
              have : g' = b := by simpa [Value.ownBlock] using hb
              have := HRB4.out.size
              omega
          · obtain ⟨cur, hc⟩ := row_block own4 hb
            exact hc.lt
      have HRI4 := Lib.hid (row_from R.out.i hb4)
      have HRV4 := Lib.hid (row_from R.out.v hb4)
      have HRL4 := Lib.hid (row_from (row_from HROW.out HRB4.out) hb4)
      have HRW4 := Lib.hid own4
      have HVA := Lib.hid (fun (k : Nat) (m : Md) (h : ms[k]? = some m) => show (vl ns ms env).getD k 0 = V ns env m.t by rw [List.getD_eq_getElem?_getD, vl_at env h]; rfl)
      have HVR := Lib.hid (vl_rng HC3.out.wf ms env)
      obtain ⟨Q, hcq, q1, q2, q3, q4⟩ := HQ.out
      have HL0 := Lib.hid (show LB w1 w4 w4 w1.heap.size ns Q 0 ns from ⟨hcq, ⟨[], by simp⟩, by omega, fun _ _ => rfl, Nat.le_refl _⟩)
      have Q1 := Lib.hid q1
      have Q2 := Lib.hid q2
      have Q3 := Lib.hid q3
      have Q4 := Lib.hid q4
      clear own4 hb4 HQ hcq q1 q2 q3 q4 R
      generalize vl ns ms env = xs at *
      go_wp2_with fail
      go_loopw [13] (fun i wr => ∃ (k : Nat) (nsk : List Nd), k ≤ ms.length ∧ i = .int .i64 k ∧ LB w1 w4 wr w1.heap.size ns Q k nsk) (fun i _ => ms.length - (intOf i).toNat)
      case atStart => exact ⟨0, ns, by omega, rfl, HL0.out⟩
      case round =>
        obtain ⟨k, nsk, hk, rfl, hrel⟩ := hrel
        have R := Lib.hid hrel
        clear hrel
        by_cases hlt : k < ms.length
        · obtain ⟨m, hm⟩ : ∃ m, ms[k]? = some m := ⟨_, List.getElem?_eq_getElem hlt⟩
          have K := Lib.hid (HMOK.out k m hm)
          have HX := Lib.hid (HVA.out k m hm)
          obtain ⟨lg, lc, hLA, hlg, hlb, hlc1, hlc2, hc0⟩ := row_md (row_same HRL4.out (fun b hb => R.out.q b (Q1.out b hb))) hm
          injection hLA with h1 h2 h3
          subst h1; subst h3
          have f0 : wr.cell? ⟨lg, k * 11, none⟩ = some (.int .i64 m.t) := hc0 0 (by decide)
          unfold maxLen at hlc2
          have HXT : Hid (isT nsk m.t) := by
            obtain ⟨l, hl⟩ := R.out.ext
            exact ⟨K.out.t.1, by rw [hl, List.length_append]; have := K.out.t.2; omega⟩
          have HXV : Hid (V nsk env m.t = V ns env m.t) := by
            obtain ⟨l, hl⟩ := R.out.ext
            have hwf := R.out.cur.wf
            subst hl
            exact V_append hwf env K.out.t.2
          have HSO := Lib.hid (some_easy w1 wr _ nsk Q m.t I VB (ids 64) (evs env 64) icap vcap R.out.cur HXT.out (HT.out.below (HB1.out.trans (R.out.cur.below0.mono HB1.out.size)) hpos) (by have := HB1.out.size; have := R.out.cur.below0.size; omega) (by have := R.out.len; have := HNL.out; omega)
            (nums_row (row_same HRI4.out (fun b hb => R.out.q b (Q2.out b hb))) (fun z hz => by
              obtain ⟨i, hi, rfl⟩ := List.mem_map.1 hz
              have := List.mem_range.1 hi
              exact WalkArith.wf_i64 (by omega)))
            (env_row (row_same HRV4.out (fun b hb => R.out.q b (Q3.out b hb))) (env_rng HE0.out 64) (by rw [evs_len]; decide)) (by rw [ids_len, evs_len]) (by rw [ids_len]; decide)
            (.inr fun i hi => by rw [gof_all env 64 (by decide) i, if_pos (mem_ints i hi)]; simp))
          rw [ids_len, evs_len] at HSO
          clear hm hc0 h2
          go_wp2_with fail
          refine HSO.out.mono ?_
          rintro e w5 ⟨y, nsk', rfl, N5, hyt, hyr⟩
          rw [all_const R.out.cur.wf HXT.out (env := env) (fun i hi => by rw [gof_all env 64 (by decide) i, if_pos hi]), HXV.out, ← HX.out] at hyr
          obtain ⟨n, hn, hn1, hn2, _⟩ := const_of_tr N5.cur.wf hyt hyr
          have R5 := Lib.hid (R.out.next N5)
          have HKN := Lib.hid (r_known N5.cur y n hn hn1)
          rw [hn2] at HKN
          clear N5 hyt hyr hn hn1 hn2 HSO HX
          go_wp2_with fail
          refine HKN.out.mono ?_
          rintro e w6 ⟨rfl, hb⟩
          have R6 := Lib.hid (R5.out.below hb)
          have hkx : k < xs.length := by omega
          have hEW : EnvAt w6 WA xs := by
            have hrow := row_same HRW4.out (fun b hb => R6.out.q b (Q4.out b hb))
            exact env_row hrow HVR.out (by omega)
          obtain ⟨ad, rfl, had, hcv, x0, x1⟩ := hEW.at hkx
          generalize xs.getD k 0 = v at hcv
          clear hb hEW x0 x1
          go_wp2_with fail
          go_roundw
          case rel => exact ⟨k + 1, nsk', by omega, by go_num, R6.out⟩
          case measure => simp [intOf]; omega
        · obtain rfl : k = ms.length := by omega
          go_wp2
          go_ret
          exact ⟨rfl, HB1.out.trans (R.out.cur.below0.mono HB1.out.size)⟩

set_option maxRecDepth 100000 in
theorem lifted (os : Os) (started : os.Started) (H : Type) (enc : TypeId × Value → H) :
    ReturnsInHanded {} Tryd.checked os 8 .any (fun w args => (Rows.fixWholeSpec.pre enc Tryd.prog Tryd.f8 [] false w args ∧ laidMetH Tryd.prog laidTab w) ∧ sizedMet enc Tryd.prog Tryd.f8 (OpenSpec.ofChange Rows.fixWholeSpec) false w args)
      (Rows.fixWholeSpec.post enc Tryd.prog Tryd.f8 false true false false) := by
  refine returnsInHanded_of_change_and (C := Tryd.checked) (X := fun w _ => laidMetH Tryd.prog laidTab w) (fun _ _ _ hh h => h.of_heap hh) ownDoor started (by kernel_rfl) Tryd.func8
    (ChangeSpec.witness_shaped (enc := enc) (C := Tryd.checked) (os := os) (X := fun w _ => laidMetH Tryd.prog laidTab w) false (World.doorLaid Tryd.prog 400 os) #[.slice none 0 0, .slice none 0 0] 8 rfl (World.shaped_of_RefB (by kernel_rfl) (by kernel_rfl)) (by kernel_rfl) (by kernel_rfl) (by kernel_rfl) (door_met os _)) ?_
  intro W base args ds gs before hval0 hW _ hsz hL _
  have hval : ∀ (j : Nat) t v, Tryd.f8.params[j]? = some t → args[j]? = some v → Value.okWide Tryd.prog W .any base t v := hval0
  have hW' := hW
  obtain ⟨p, q, hA0, hV, rfl, hfz, hnd⟩ := hW
  have hA : DataW.TrodAll enc Tryd.prog W 0 (fun _ => true) true Tryd.f8.params.toList args.toList ds p := hA0
  rw [Tryd.params8] at hA hval
  obtain ⟨v0, vs0, d0, ds0, p0, q0, hargs, rfl, rfl, h0, r0⟩ := trodAll_cons hA
  obtain ⟨v1, vs1, d1, ds1, p1, q1, rfl, rfl, rfl, h1, r1⟩ := trodAll_cons r0
  obtain ⟨rfl, rfl, rfl⟩ := trodAll_nil r1
  obtain rfl : args = #[v0, v1] := by cases args; simp_all
  obtain ⟨rfl, rfl⟩ := trodVars_none hV
  have w0 : RowsIn W v0 := rows_open (hval 0 22 v0 rfl rfl) h0
  have w1 : EnvIn W v1 := env_open Tryd.underlying23 Tryd.underlying31 cellsU16 (hval 1 23 v1 rfl rfl) h1
  obtain ⟨hT, hpos⟩ := of_laid hL
  clear hA0 hval0
  simp only [List.append_nil] at hW'
  have hlt := hW'.lt
  refine (walk v0 v1 W w0 w1 hT hpos).mono fun e W' ⟨he, hg⟩ => ?_
  subst he
  exact ⟨_, rfl, post_kept hW' hg (fun _ _ _ => (trodAll_cons_mk (shut_bool Tryd.underlying4 _) trodAll_mk0)) (fun sp hsp => (trodAll_cons_mk (WideElems.Trod_stays laidOut (by kernel_rfl) (of_decide_eq_true (by kernel_rfl)) h0 (fun x hx => hg.same (hlt x (by simp; first | exact .inl hx | exact .inr hx | exact hx | exact .inr (.inl hx)))) (fun x hx => hsp x (by simp; first | exact .inl hx | exact .inr hx | exact hx | exact .inr (.inl hx)))) (trodAll_cons_mk (WideElems.Trod_stays laidOut (by kernel_rfl) (of_decide_eq_true (by kernel_rfl)) h1 (fun x hx => hg.same (hlt x (by simp; first | exact .inl hx | exact .inr hx | exact hx | exact .inr (.inl hx)))) (fun x hx => hsp x (by simp; first | exact .inl hx | exact .inr hx | exact hx | exact .inr (.inl hx)))) trodAll_mk0))) (fun _ _ => rfl) (by simp)
    (ok_one (by kernel_rfl) rfl (okWide_bool_mk Tryd.underlying4 _))⟩

theorem over : Rows.FixWholeSaid :=
  OpenClaim.holds_of_wide 8 Tryd.f8 rfl rfl rfl rfl rfl rfl rfl ⟨rfl, rfl, rfl, rfl, rfl⟩ rfl rfl rfl rfl rfl (by kernel_rfl) Tryd.func8 (by kernel_rfl)
    (of_decide_eq_true (by kernel_rfl)) (by unfold Func.isWrapper; first | (rw [if_pos (by decide +kernel)]; kernel_rfl) | (rw [if_neg (by decide +kernel)]; exact ⟨rfl, rfl⟩))
    (fun os started H enc _ => lifted os started H enc)

theorem proved : Rows.FixWholeCardSaid :=
  Claim7.holds_tied_plain_at .later [] [.data] true _ false
    over (fun _ h => by cases h) (by kernel_rfl) (fun _ h => by cases h) fixWhole_row_tie rfl ⟨rfl, rfl⟩ (by kernel_rfl) rfl
    (fun f fn hf hfn => by
      obtain rfl : f = 8 := Option.some.inj ((show Tryd.prog.funcNamed "crossroads/crossroadslaw3.FixWhole" = some 8 by kernel_rfl).symm.trans hf) |>.symm
      obtain rfl : fn = Tryd.f8 := (Option.some.inj (Tryd.func8.symm.trans hfn)).symm
      exact ⟨by kernel_rfl, fun j t ht => by
        rw [Tryd.params8] at ht
        have hm : t ∈ ([22, 23] : List TypeId) := by simpa using Array.mem_of_getElem? ht
        have hall : (([22, 23] : List TypeId).all fun u => !Tryd.prog.wantsStandIn u) = true := by kernel_rfl
        exact (show Tryd.prog.wantsStandIn t = false by simpa using List.all_eq_true.1 hall t hm)⟩)
    (by kernel_rfl)
#print axioms proved
end Go.Proofs.YtchbdnifcckloaaDoor.fixWhole
