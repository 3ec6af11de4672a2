/-
  The law CheckJumps over what Run is to answer.
-/
import Derived.Test.YthjbjbbbbdhcmaaCheckA
import Derived.Test.YthjbjbbbbdhcmaaCheckQ
import Derived.Deep.RegionLaw
import Derived.Deep.LoopGhost
import Derived.Deep.OwnRows
import Derived.Deep.CutBlock
import Derived.Deep.DeepCutAuto
namespace Go.Proofs.Ythjbjbbbbdhcmaa
open Go.ChangeShapes Go.WideShapes Go.ChangeAt Go.RowKit Go.Joins
set_option linter.unusedVariables false

/-- Bytes as numbers, wherever they lie. -/
def OctsAt (w : World) (A : Option Addr) (l : List Nat) : Prop := ∀ (j b : Nat), l[j]? = some b → b ≤ 255 ∧ ∃ g off, A = some ⟨g, off, none⟩ ∧ g < w.heap.size ∧ w.cell? ⟨g, off + j, none⟩ = some (.int .u8 b)
theorem OctsAt.gw {w w' : World} {A : Option Addr} {l : List Nat} (h : OctsAt w A l) (g : Gw w w') : OctsAt w' A l := fun j a hj => by
  obtain ⟨h1, b, off, e, hl, hc⟩ := h j a hj
  exact ⟨h1, b, off, e, Nat.lt_of_lt_of_le hl g.size, g.cell hc⟩
def jI (j : Nat) : Int × Int := ((22 : Int), (j : Int))
def mods (l : List Nat) : List Nat := l.map (fun b => b % 96)
theorem mods_at {l : List Nat} {k b : Nat} (h : l[k]? = some b) : (mods l)[k]? = some (b % 96) := by unfold mods; rw [List.getElem?_map, h]; rfl
theorem mods_len (l : List Nat) : (mods l).length = l.length := by simp [mods]
theorem mods_le {l : List Nat} : ∀ j ∈ mods l, j ≤ 95 := fun j hj => by
  obtain ⟨b, _, rfl⟩ := List.mem_map.1 hj
  omega
theorem take_jump {l : List Nat} {k j : Nat} (h : l[k]? = some j) : (l.take (k + 1)).map jI = (l.take k).map jI ++ [jI j] := by
  obtain ⟨hi, he⟩ := List.getElem?_eq_some_iff.1 h
  rw [List.take_succ_eq_append_getElem hi, he]
  simp
theorem jumpsL_wf {l : List Nat} {exit : Bool} (h : ∀ j ∈ l, j ≤ 95) : ∀ x ∈ jumpsL l exit, (Lit.int .i64 x.1).wf = true ∧ (Lit.int .i64 x.2).wf = true := fun x hx => by
  unfold jumpsL at hx
  rcases List.mem_append.1 hx with hx | hx
  · obtain ⟨j, hj, rfl⟩ := List.mem_map.1 hx
    have := h j hj
    refine ⟨(by decide : (Lit.int .i64 22).wf = true), ?_⟩
    have all : ∀ q : Fin 96, (Lit.int .i64 (q.val : Int)).wf = true := by decide +kernel
    exact all ⟨j, by omega⟩
  · cases exit with
    | false => simp at hx
    | true =>
      simp only [if_true, List.mem_cons, List.mem_nil_iff, or_false] at hx
      rcases hx with rfl | rfl <;> decide
def marks (n : Nat) (s : Nat → Bool) : Array Value := ((List.range n).map fun i => Value.bool (s i)).toArray
theorem marks_get {n i : Nat} (s : Nat → Bool) (hi : i < n) : (marks n s)[i]? = some (.bool (s i)) := by
  unfold marks
  rw [List.getElem?_toArray, List.getElem?_map, List.getElem?_range hi]
  rfl
theorem marks_size (n : Nat) (s : Nat → Bool) : (marks n s).size = n := by simp [marks]
def sets (s : Nat → Bool) (k : Nat) : Nat → Bool := fun i => s i || decide (i = k)
theorem marks_set {n k : Nat} (s : Nat → Bool) (hk : k < n) : (marks n s).setIfInBounds k (.bool true) = marks n (sets s k) := by
  refine arr_ext (n := n) (by rw [Array.size_setIfInBounds, marks_size]) (marks_size _ _) fun j hj => ?_
  rw [Array.getElem?_setIfInBounds, marks_size, marks_get _ hj, marks_get _ hj]
  by_cases e : k = j
  · subst e
    rw [if_pos rfl, if_pos hk]
    simp [sets]
  · rw [if_neg e]
    have : sets s k j = s j := by simp [sets]; intro q; exact absurd q.symm e
    rw [this]
theorem made_marks (n : Nat) : madeCells #[Value.bool false] n = marks n (fun _ => false) := by
  apply Array.toList_inj.1
  rw [toList_madeCells_one]
  unfold marks
  simp
  rw [List.map_const']
  simp
theorem orbs_sets {js : List Nat} {s : Nat → Bool} {h j : Nat} (x : OrbS js (fun i => s i = true) h) (hj : js[h]? = some j) : OrbS js (fun i => sets s h i = true) j := by
  have e : (fun i => sets s h i = true) = fun i => s i = true ∨ i = h := by
    funext i
    simp [sets]
  rw [e]
  exact x.next hj
theorem sets_less {n h : Nat} {s : Nat → Bool} (hh : h < n) (hs : s h = false) : (List.range n).countP (fun i => !sets s h i) < (List.range n).countP (fun i => !s i) :=
  countP_lt (fun x _ hx => by
    cases hq : s x with
    | false => rfl
    | true => simp [sets, hq] at hx) ⟨h, List.mem_range.2 hh, by simp [hs], by simp [sets]⟩
/-- What the law's second loop has found, k gone through: no instruction; all well so far; the first that leads beyond. -/
def JF (js : List Nat) (tt k : Nat) (aa wt : Int) : Prop :=
  (tt = 0 ∧ wt = 3 ∧ aa = 0) ∨ (tt ≠ 0 ∧ wt = 0 ∧ aa = 0 ∧ ∀ q j, q < k → js[q]? = some j → j < tt) ∨
  ∃ q j : Nat, wt = 6 ∧ aa = q ∧ js[q]? = some j ∧ tt ≤ j ∧ ∀ q' j', q' < q → js[q']? = some j' → j' < tt
set_option maxRecDepth 100000 in
set_option maxHeartbeats 8000000 in
theorem jumps_walk (r : RunC) (aw : AwC) {w : World} {A : Option Addr} {l : List Nat} {ca : Nat} (exit : Bool) (hb : OctsAt w A l) (hn : l.length ≤ 9223372036854775807) :
    Calls Try.prog 6 #[.slice A l.length ca, .bool exit] w fun e w' => e = .returned (.bool true) ∧ Gw w w' := by
  have AW := aw w
  have HB := Lib.hid hb
  clear hb
  by_cases h60 : 60 < l.length
  · have f1 : decide ((60 : Int) < l.length) = true := decide_eq_true (by omega)
    clear h60
    go_enter Try.func6, Try.ntmps6
    go_wp2_with (go_at_call 8; with_reducible refine AW.mono ?_; rintro e w1 ⟨rfl, G1⟩)
    go_ret
    exact ⟨rfl, G1⟩
  have f1 : decide ((60 : Int) < l.length) = false := decide_eq_false (by omega)
  have hl : l.length ≤ 60 := by omega
  clear h60
  obtain ⟨i0, hi1, hi2, hi3, hi4⟩ := info_inst
  have HI := Lib.hid (show _ ∧ _ ∧ _ ∧ _ from ⟨hi1, hi2, hi3, hi4⟩)
  clear hi1 hi2 hi3 hi4
  go_enter Try.func6, Try.ntmps6
  go_upto_region 6 with (go_at_call 8; with_reducible refine AW.mono ?_; rintro e w1 ⟨rfl, G1⟩)
  have P0 := Lib.hid (PV.start G1)
  generalize w1.alloc (.cells #[.slice none 0 0, .slice none 0 0] 25) = w2 at *
  generalize w1.heap.size = pv at *
  go_wp2
  go_loopw [6] (fun i wr => ∃ (k : Nat) (u : Value), k ≤ l.length ∧ i = .int .i64 k ∧ Hid (PV w wr pv u (((mods l).take k).map jI))) (fun i _ => l.length - (intOf i).toNat)
  case atStart => exact ⟨0, _, by omega, rfl, P0.out⟩
  case round =>
    obtain ⟨k, u, hk, rfl, HP⟩ := hrel
    clear P0
    have HLT := Lib.hid HP.out.lt
    have c0 := HP.out.var.cell 0
    have cz0 := HP.out.var.free 0
    by_cases hlt : k < l.length
    · obtain ⟨b, hb⟩ : ∃ b, l[k]? = some b := ⟨_, List.getElem?_eq_getElem hlt⟩
      obtain ⟨hb255, g, off, rfl, hg, cb0⟩ := (HB.out.gw HP.out.gw) k b hb
      have HTK := Lib.hid (take_jump (mods_at hb))
      have hm1 : Int.tmod (b : Int) 96 = ((b % 96 : Nat) : Int) := by rw [Int.tmod_eq_emod_of_nonneg (by omega)]; omega
      have hm2 : b % 96 ≤ 95 := by omega
      obtain ⟨j, hj⟩ : ∃ j, j = b % 96 := ⟨_, rfl⟩
      rw [← hj] at HTK hm1 hm2
      have wb : IntKind.i64.wrap (b : Int) = b := wrap_in (by omega) (by omega)
      have wj : IntKind.i64.wrap (j : Int) = j := wrap_in (by omega) (by omega)
      have hpl : (((mods l).take k).map jI).length = k := by simp [mods_len]; omega
      have HPL := Lib.hid hpl
      have HROW : Hid (wr.ownsRow (pv + 1) 38 2 u k (iCells (((mods l).take k).map jI))) := by have := HP.out.row; rw [hpl] at this; exact this
      clear hpl hj hb
      go_upto_region 9 with fail
      have e1 := (Gw.alloc wr (.cells #[.int .i64 22, .int .i64 j] 38)).cell c0
      have e2 : (wr.alloc (.cells #[.int .i64 22, .int .i64 j] 38)).drew.cell? ⟨pv, 0, none⟩ = some u := e1
      go_region_law ((refine step_append_lies _ (by rfl) _ _ _ (by rfl) (pv + 1) 38 i0 _ 2 16 Try.underlying22 HI.out.1 HI.out.2.1 HI.out.2.2.1 HI.out.2.2.2 rfl (by omega) u k (iCells (((mods l).take k).map jI)) (by rfl) ((HROW.out.alloc _).drew) ⟨wr.heap.size, 0, none⟩ 1 1 [.int .i64 22, .int .i64 j] (by rfl) (by rfl) (World.news_of_block (cs := #[.int .i64 22, .int .i64 j]) (t := 38) (fr := (0, 0)) (heap_alloc_new wr _)) (by simp [Value.oneCell']) (by omega) (by unfold maxLen; omega) (by omega) (by have := HLT.out; simp; omega) (wr.heap.size + 1) (by simp) ?_; intro g1 c1 wp hown1 hg1 hat1 hlt1; have hv1 := HP.out.var_by (Gw.alloc wr _).drew hg1; have cv := hv1.cell 0; have cz := hv1.free 0))
      all_goals (
        have PN := Lib.hid (HP.out.add_by (M := [jI j]) (Gw.alloc wr _).drew (by rw [HPL.out]; rfl) hown1 hg1)
        clear hown1 hg1 hat1 hlt1 hv1 cv cz
        go_wp2
        go_roundw
        case rel => exact ⟨k + 1, _, by omega, by go_num, by rw [HTK.out]; exact PN.out⟩
        case measure => simp [intOf]; omega)
    · obtain rfl : k = l.length := by omega
      rw [← mods_len l, List.take_length] at HP
      have hjl := mods_len l
      have h95 := Lib.hid (mods_le (l := l))
      generalize mods l = js at *
      have HJL := Lib.hid hjl
      have hpl : (js.map jI).length = l.length := by simp [hjl]
      have HPL := Lib.hid hpl
      have HROW : Hid (wr.ownsRow (pv + 1) 38 2 u l.length (iCells (js.map jI))) := by have := HP.out.row; rw [hpl] at this; exact this
      clear hpl hjl
      go_upto_if 38 with fail
      go_cut [] (fun wx => ∃ u, Hid (PV w wx pv u (jumpsL js exit)))
      case first =>
        cases exit with
        | false =>
          have e : jumpsL js false = js.map jI := List.append_nil _
          have HE := Lib.hid e
          clear e
          go_wp2
          go_meet
          exact ⟨u, by rw [HE.out]; exact HP.out⟩
        | true =>
          go_wp2_with (at_builtin; refine wpList_append_lies _ rfl _ _ _ rfl (pv + 1) 38 i0 _ 2 16 Try.underlying22 HI.out.1 HI.out.2.1 HI.out.2.2.1 HI.out.2.2.2 rfl (by omega) u l.length (iCells (js.map jI)) rfl (HROW.out.alloc _) ⟨_, 0, none⟩ 2 2 [.int .i64 1, .int .i64 0, .int .i64 26, .int .i64 0] rfl rfl (World.news_of_block (cs := #[.int .i64 1, .int .i64 0, .int .i64 26, .int .i64 0]) (t := 38) (fr := (0, 0)) (heap_alloc_new _ _)) (by simp [Value.oneCell']) (by omega) (by unfold maxLen; omega) (by omega) (by have := HLT.out; simp; omega) _ rfl ?_; intro g1 c1 wp hown1 hg1 hat1 hlt1; have hv1 := HP.out.var_at hg1; have cv := hv1.cell 0; have cz := hv1.free 0)
          have PN := Lib.hid (HP.out.add (M := [(1, 0), (26, 0)]) (by rw [HPL.out]; rfl) hown1 hg1)
          clear hown1 hg1 hat1 hlt1 hv1 cv cz
          go_meet
          exact ⟨_, PN.out⟩
      case rest =>
        obtain ⟨u, HP⟩ := hcut
        obtain ⟨A9, ca9, rfl, PK⟩ := HP.out.pok (jumpsL_wf h95.out)
        have PKH := Lib.hid PK
        have c0 := HP.out.var.cell 0
        have c1 := HP.out.var.cell 1
        have GP := Lib.hid HP.out.gw
        have HINST := Lib.hid PK.inst
        obtain ⟨tt, htt⟩ : ∃ tt, tt = (jumpsL js exit).length := ⟨_, rfl⟩
        rw [← htt] at c0
        have HTT := Lib.hid htt
        have htb : tt ≤ 62 := by rw [htt, jumpsL_len, HJL.out]; split <;> omega
        clear PK HP htt HROW HPL HLT
        go_upto_if 49 with fail
        obtain ⟨wd, hwd⟩ : ∃ x, x = wc := ⟨_, rfl⟩
        subst hwd
        go_cut [8] (fun s wx => ∃ w8 : Int, s = .int .i64 w8 ∧ Hid (w8 = if tt = 0 then 3 else 0) ∧ wx = wd)
        case first =>
          by_cases h0 : tt = 0
          · have e : ((tt : Int) == 0) = true := by simp [h0]
            have e2 : (if tt = 0 then (3 : Int) else 0) = 3 := if_pos h0
            have E2 := Lib.hid e2
            clear h0 e2
            go_wp2
            go_meet
            exact ⟨3, rfl, E2.out.symm, rfl⟩
          · have e : ((tt : Int) == 0) = false := by simp [h0]
            have e2 : (if tt = 0 then (3 : Int) else 0) = 0 := if_neg h0
            have E2 := Lib.hid e2
            clear h0 e2
            go_wp2
            go_meet
            exact ⟨0, rfl, E2.out.symm, rfl⟩
        case rest =>
          obtain ⟨w8, rfl, HW8, rfl⟩ := hcut
          go_upto_block 2 with fail
          go_cut [7, 8] (fun a t wx => ∃ (aa wt : Int), a = .int .i64 aa ∧ t = .int .i64 wt ∧ Hid (Gw wc wx) ∧ Hid (JF js tt l.length aa wt))
          case first =>
            go_wp2
            go_loopw [7, 8, 9] (fun a t i w' => ∃ (k : Nat) (aa wt : Int), k ≤ l.length ∧ a = .int .i64 aa ∧ t = .int .i64 wt ∧ i = .int .i64 k ∧ Hid (Gw wc w') ∧ Hid (JF js tt k aa wt)) (fun _ _ i _ => l.length - (intOf i).toNat)
            case atStart =>
              refine ⟨0, 0, w8, by omega, rfl, rfl, rfl, Gw.refl _, ?_⟩
              by_cases h0 : tt = 0
              · exact .inl ⟨h0, by rw [HW8.out, if_pos h0], rfl⟩
              · exact .inr (.inl ⟨h0, by rw [HW8.out, if_neg h0], rfl, fun q j hq => by omega⟩)
            case round =>
              obtain ⟨k, aa, wt, hk, rfl, rfl, rfl, G, HF⟩ := hrel
              have d0 := G.out.cell c0
              rcases HF.out with ⟨z, rfl, rfl⟩ | ⟨z, rfl, rfl, hq⟩ | ⟨q, j, rfl, rfl, hj, htj, hq⟩
              · have hl0 : l.length = 0 := by
                  have := HTT.out
                  rw [jumpsL_len, HJL.out] at this
                  omega
                have hkn : ¬ k < l.length := by omega
                have HN : Hid (JF js tt l.length 0 3) := .inl ⟨z, rfl, rfl⟩
                clear HF z hl0
                go_wp2
                go_meet
                exact ⟨0, 3, rfl, rfl, G.out, HN.out⟩
              · by_cases hlt : k < l.length
                · obtain ⟨j, hj⟩ : ∃ j, js[k]? = some j := ⟨_, List.getElem?_eq_getElem (by rw [HJL.out]; exact hlt)⟩
                  obtain ⟨g9, o9, rfl, hg9, i0', i1'⟩ := (HINST.out) k _ (jumpsL_get (exit := exit) hj)
                  have i1 := G.out.cell i1'
                  simp only at i1
                  have HJ := Lib.hid hj
                  have HQ := Lib.hid hq
                  have HZ := Lib.hid z
                  have hkt : k < tt := by
                    have := HTT.out
                    rw [jumpsL_len, HJL.out] at this
                    omega
                  by_cases hjt : j < tt
                  · have f2 : ¬ tt ≤ j := by omega
                    have HN : Hid (JF js tt (k + 1) 0 0) := .inr (.inl ⟨HZ.out, rfl, rfl, fun q j' hq hj' => by
                      by_cases e : q = k
                      · subst e; rw [HJ.out] at hj'; injection hj' with hj'; omega
                      · exact HQ.out q j' (by omega) hj'⟩)
                    clear HF z hq hj i0' i1' hjt
                    go_upto_region 18 with fail
                    go_quiet (fail)
                    go_wp2
                    go_roundw
                    case rel => exact ⟨k + 1, 0, 0, by omega, rfl, rfl, by go_num, G.out.drewM _, HN.out⟩
                    case measure => simp [intOf]; omega
                  · have f2 : tt ≤ j := by omega
                    have HN : Hid (JF js tt (k + 1) k 6) := .inr (.inr ⟨k, j, rfl, rfl, HJ.out, by omega, HQ.out⟩)
                    clear HF z hq hj i0' i1' hjt
                    go_upto_region 18 with fail
                    go_quiet (fail)
                    go_wp2
                    go_roundw
                    case rel => exact ⟨k + 1, k, 6, by omega, rfl, rfl, by go_num, G.out.drewM _, HN.out⟩
                    case measure => simp [intOf]; omega
                · obtain rfl : k = l.length := by omega
                  have HN := Lib.hid HF.out
                  clear HF z hq
                  go_wp2
                  go_meet
                  exact ⟨0, 0, rfl, rfl, G.out, HN.out⟩
              · have HN : Hid (JF js tt l.length q 6) := .inr (.inr ⟨q, j, rfl, rfl, hj, htj, hq⟩)
                clear HF hj htj hq
                by_cases hlt : k < l.length
                · go_wp2
                  go_meet
                  exact ⟨q, 6, rfl, rfl, G.out, HN.out⟩
                · go_wp2
                  go_meet
                  exact ⟨q, 6, rfl, rfl, G.out, HN.out⟩
          case rest =>
            obtain ⟨aa, wt, rfl, rfl, G, HF⟩ := hcut
            have d0 := G.out.cell c0
            have hmkS : ∀ w, (Instr.makeSlice 44 (.int .i64 ((tt : Int) + 1)) (.int .i64 ((tt : Int) + 1))).run Try.prog w = .ok (.slice (some ⟨w.heap.size, 0, none⟩) (tt + 1) (tt + 1)) (w.alloc (.cells (madeCells #[.bool false] (tt + 1)) 4)) := fun w => run_make_row' (P := Try.prog) 44 4 (.bool false) 1 Try.underlying44 (by kernel_rfl) rfl .i64 .i64 (tt + 1) (by omega) (by omega) w
            have wt1 : IntKind.i64.wrap ((tt : Int) + 1) = (tt : Int) + 1 := wrap_in (by omega) (by omega)
            have M0 : Hid (Gw wc (wc.alloc (.cells (madeCells #[.bool false] (tt + 1)) 4))) := Gw.alloc _ _
            have S0 : Hid (Has (wc.alloc (.cells (madeCells #[.bool false] (tt + 1)) 4)) wc.heap.size 4 (marks (tt + 1) (fun _ => false))) := by have := Has.new wc 4 (madeCells #[.bool false] (tt + 1)); rw [made_marks] at this ⊢; exact this
            have GWC := Lib.hid G.out
            have hsbl : wc.heap.size ≤ wc.heap.size := Nat.le_refl _
            go_upto_block 4 with fail
            generalize wc.alloc (.cells (madeCells #[.bool false] (tt + 1)) 4) = w6 at *
            obtain ⟨sb, hsb⟩ : ∃ sb, sb = wc.heap.size := ⟨_, rfl⟩
            rw [← hsb] at S0 ⊢
            have HSB := Lib.hid hsb
            clear hsb hsbl hmkS wt1 d0
            go_cut [10] (fun h wx => ∃ hv : Nat, h = .int .i64 hv ∧ Hid (Gw wc wx) ∧ Hid (wt = 0 → ∃ S : Nat → Prop, OrbS js S hv ∧ (js.length ≤ hv ∨ S hv)))
            case first =>
              go_wp2
              go_loopg [10] (l.length + 1) (fun gg h w' => ∃ (hv : Nat) (s : Nat → Bool), h = .int .i64 hv ∧ Hid (Gw wc w') ∧ Hid (Has w' sb 4 (marks (tt + 1) s)) ∧ Hid (wt = 0 → OrbS js (fun i => s i = true) hv) ∧ (List.range l.length).countP (fun i => !s i) + 1 ≤ gg)
              case atStart => exact ⟨0, _, rfl, M0.out, S0.out, fun _ => by
                have e : (fun i : Nat => (fun _ => false : Nat → Bool) i = true) = fun _ => False := by funext i; simp
                rw [e]; exact OrbS.start, Nat.succ_le_succ (by have := List.countP_le_length (p := fun _ : Nat => !false) (l := List.range l.length); rw [List.length_range] at this; exact this)⟩
              case round =>
                obtain ⟨hv, s, rfl, G5, H5, HO, hgg⟩ := hrel
                clear M0 S0
                by_cases hw : wt = 0
                · subst hw
                  by_cases hlt : hv < l.length
                  · have hvt : hv < tt + 1 := by
                      have := HTT.out
                      rw [jumpsL_len, HJL.out] at this
                      omega
                    have hvt2 : hv < tt := by
                      have := HTT.out
                      rw [jumpsL_len, HJL.out] at this
                      omega
                    have cs : w6.cell? ⟨sb, hv, none⟩ = w6.cell? ⟨sb, hv, none⟩ := rfl
                    have ch : wr.cell? ⟨sb, hv, none⟩ = some (.bool (s hv)) := by rw [H5.out.cell, marks_get _ hvt]
                    have cf : wr.frozen? ⟨sb, hv, none⟩ = false := H5.out.free hv
                    clear cs
                    cases hs : s hv with
                    | true =>
                      rw [hs] at ch
                      have HX : Hid (∃ S : Nat → Prop, OrbS js S hv ∧ (js.length ≤ hv ∨ S hv)) := ⟨_, HO.out rfl, .inr hs⟩
                      clear hs HO
                      go_wp2
                      go_meet
                      exact ⟨hv, rfl, G5.out, fun _ => HX.out⟩
                    | false =>
                      rw [hs] at ch
                      obtain ⟨j, hj⟩ : ∃ j, js[hv]? = some j := ⟨_, List.getElem?_eq_getElem (by rw [HJL.out]; exact hlt)⟩
                      have HX := Lib.hid (orbs_sets (HO.out rfl) hj)
                      have hc := sets_less (n := l.length) hlt hs
                      have HC := Lib.hid hc
                      have B1 := But.set sb wr hv (.bool true)
                      have G7 := Lib.hid (B1.gw G5.out (by rw [HSB.out]; exact Nat.le_refl _))
                      have H7 : Hid (Has (wr.setCell ⟨sb, hv, none⟩ (.bool true)) sb 4 (marks (tt + 1) (sets s hv))) := by have := H5.out.put hv (.bool true); rw [marks_set _ hvt] at this; exact this
                      obtain ⟨g9, o9, rfl, hg9, i0', i1'⟩ := (HINST.out) hv _ (jumpsL_get (exit := exit) hj)
                      clear hc HO hs B1
                      go_upto_region 24 with fail
                      generalize wr.setCell ⟨sb, hv, none⟩ (.bool true) = w8' at *
                      have d0 := (GWC.out.trans G7.out).cell c0
                      have i1 := (GWC.out.trans G7.out).cell i1'
                      simp only at i1
                      clear i0' i1' ch cf
                      go_wp2
                      go_roundg ((List.range l.length).countP (fun i => !sets s hv i) + 1)
                      case measure => have := HC.out; omega
                      case rel => exact ⟨j, sets s hv, rfl, G7.out, H7.out, fun _ => HX.out, Nat.le_refl _⟩
                  · have HX : Hid (∃ S : Nat → Prop, OrbS js S hv ∧ (js.length ≤ hv ∨ S hv)) := ⟨_, HO.out rfl, .inl (by rw [HJL.out]; omega)⟩
                    clear HO
                    go_wp2
                    go_meet
                    exact ⟨hv, rfl, G5.out, fun _ => HX.out⟩
                · have e : (wt == 0) = false := by simp [hw]
                  have HW := Lib.hid hw
                  clear hw HO
                  go_wp2
                  go_meet
                  exact ⟨hv, rfl, G5.out, fun k => absurd k HW.out⟩
            case rest =>
              obtain ⟨hv, rfl, G5, HO⟩ := hcut
              have G7 := GWC.out.trans G5.out
              have d0 := G7.cell c0
              have d1 := G7.cell c1
              have RC7 := Lib.hid (r (PKH.out.gw G7))
              rw [← HTT.out] at RC7
              have GA := Lib.hid (GP.out.trans G7)
              have hjl := HJL.out
              have hl' : js.length ≤ 60 := by omega
              have ht' := HTT.out
              have htl := ht'
              rw [jumpsL_len] at htl
              rcases HF.out with ⟨z, rfl, rfl⟩ | ⟨z, rfl, rfl, hq⟩ | ⟨q, j, rfl, rfl, hj, htj, hq⟩
              · have he : exit = false := by cases exit <;> simp_all
                have hj0 : js = [] := List.eq_nil_of_length_eq_zero (by omega)
                have IS := Lib.hid (jumps_full hj0 he)
                have RR : Calls Try.prog 10 #[.agg #[.slice A9 tt ca9, .slice none 0 0]] wc fun e W' => e = .returned (.tuple #[.int .i64 0, .int .i64 3]) ∧ Gw wc W' := RC7.out.mono fun e W' ⟨k9, f9, hs9, he9, hi9, hg9⟩ => by
                  obtain ⟨rfl, rfl, rfl⟩ := Is.det hi9 IS.out
                  exact ⟨he9, hg9⟩
                clear RC7
                clear he hj0 htl ht' hjl hl' G7 HO HF z
                go_wp2_with (go_at_call 10; with_reducible refine RR.mono ?_; rintro e w5 ⟨rfl, G6⟩)
                go_ret
                exact ⟨by simp, GA.out.trans G6⟩
              · obtain ⟨S, O, hS⟩ := HO.out rfl
                have all : ∀ k ∈ js, k < (jumpsL js exit).length := fun k hk => by
                  obtain ⟨q, hq'⟩ := List.getElem?_of_mem hk
                  rw [← ht']
                  exact hq q k (by have := (List.getElem?_eq_some_iff.1 hq').1; omega) hq'
                have hnn : js ≠ [] ∨ exit = true := by
                  cases hx : exit with
                  | true => exact .inr rfl
                  | false =>
                    refine .inl (fun e => z ?_)
                    rw [htl, hx, e]
                    rfl
                have w9 : IntKind.i64.wrap ((l.length : Int) + 1) = (l.length : Int) + 1 := wrap_in (by omega) (by omega)
                cases hx : exit with
                | true =>
                  subst hx
                  by_cases hvn : hv = l.length + 1
                  · have e9 : ((hv : Int) == (l.length : Int) + 1) = true := by simp; omega
                    have IS : Hid (Is (jumpsL js true) [] (hv : Int) 7 []) := by
                      have := jumps_stack hl' h95.out all rfl (by rw [hjl, ← hvn]; exact O.o) (fun o => by have := O.done hS o (Nat.le_refl _); omega)
                      rw [hjl, ← hvn] at this
                      exact this
                    have RR : Calls Try.prog 10 #[.agg #[.slice A9 tt ca9, .slice none 0 0]] wc fun e W' => e = .returned (.tuple #[.int .i64 hv, .int .i64 7]) ∧ Gw wc W' := RC7.out.mono fun e W' ⟨k9, f9, hs9, he9, hi9, hg9⟩ => by
                      obtain ⟨rfl, rfl, rfl⟩ := Is.det hi9 IS.out
                      exact ⟨he9, hg9⟩
                    clear RC7
                    clear htl ht' hjl hl' G7 HO HF z hvn all hnn hq O hS
                    go_wp2_with (go_at_call 10; with_reducible refine RR.mono ?_; rintro e w5 ⟨rfl, G6⟩)
                    go_ret
                    exact ⟨by simp, GA.out.trans G6⟩
                  · have e9 : ((hv : Int) == (l.length : Int) + 1) = false := by simp; omega
                    have IS := Lib.hid (jumps_well hl' h95.out all hnn (fun k => hvn (by have := O.done hS k.2 (by omega); omega)))
                    have RR : Calls Try.prog 10 #[.agg #[.slice A9 tt ca9, .slice none 0 0]] wc fun e W' => e = .returned (.tuple #[.int .i64 0, .int .i64 0]) ∧ Gw wc W' := RC7.out.mono fun e W' ⟨k9, f9, hs9, he9, hi9, hg9⟩ => by
                      obtain ⟨hs0, IS0⟩ := IS.out
                      obtain ⟨rfl, rfl, rfl⟩ := Is.det hi9 IS0
                      exact ⟨he9, hg9⟩
                    clear RC7
                    clear htl ht' hjl hl' G7 HO HF z hvn all hnn hq O hS
                    go_wp2_with (go_at_call 10; with_reducible refine RR.mono ?_; rintro e w5 ⟨rfl, G6⟩)
                    go_ret
                    exact ⟨by simp, GA.out.trans G6⟩
                | false =>
                  subst hx
                  have IS := Lib.hid (jumps_well hl' h95.out all hnn (fun k => by cases k.1))
                  have RR : Calls Try.prog 10 #[.agg #[.slice A9 tt ca9, .slice none 0 0]] wc fun e W' => e = .returned (.tuple #[.int .i64 0, .int .i64 0]) ∧ Gw wc W' := RC7.out.mono fun e W' ⟨k9, f9, hs9, he9, hi9, hg9⟩ => by
                    obtain ⟨hs0, IS0⟩ := IS.out
                    obtain ⟨rfl, rfl, rfl⟩ := Is.det hi9 IS0
                    exact ⟨he9, hg9⟩
                  clear RC7
                  clear htl ht' hjl hl' G7 HO HF z all hnn hq O hS
                  go_wp2_with (go_at_call 10; with_reducible refine RR.mono ?_; rintro e w5 ⟨rfl, G6⟩)
                  go_ret
                  exact ⟨by simp, GA.out.trans G6⟩
              · have IS := Lib.hid (jumps_bad hl' h95.out hj (by rw [← ht']; exact htj) (fun q' k hq' hk => by rw [← ht']; exact hq q' k hq' hk))
                have RR : Calls Try.prog 10 #[.agg #[.slice A9 tt ca9, .slice none 0 0]] wc fun e W' => e = .returned (.tuple #[.int .i64 q, .int .i64 6]) ∧ Gw wc W' := RC7.out.mono fun e W' ⟨k9, f9, hs9, he9, hi9, hg9⟩ => by
                  obtain ⟨rfl, rfl, rfl⟩ := Is.det hi9 IS.out
                  exact ⟨he9, hg9⟩
                clear RC7
                clear htl ht' hjl hl' G7 HO HF hj htj hq
                go_wp2_with (go_at_call 10; with_reducible refine RR.mono ?_; rintro e w5 ⟨rfl, G6⟩)
                go_ret
                exact ⟨by simp, GA.out.trans G6⟩
end Go.Proofs.Ythjbjbbbbdhcmaa
