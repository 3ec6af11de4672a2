/-
  The law TreeFull's walk, over what the program's tree is to answer.
-/
import Derived.Test.YtlnobekjcengfaaTreeY
import Derived.Deep.OwnRows
import Derived.Deep.DeepCutAuto
namespace Go.Proofs.Ytlnobekjcengfaa
open Go.ChangeShapes Go.WideShapes Go.ChangeAt Go.RowKit Go.Joins
set_option linter.unusedVariables false
set_option linter.unusedSimpArgs false

/-- What is there, at the k-th of the law's numbers. -/
structure FullI (s : St) (th : List Bool) (k n : Nat) : Prop where
  ok : Ok s.l
  len : s.l.length = n
  n8 : n ≤ 8
  fil : ∀ i ∈ s.l, i.d = false
  tl : th.length = 26
  th : ∀ j, j < 26 → th[j]? = some (look s.l (lt1 j)).isSome
  nx0 : 0 ≤ s.nx
  nxk : s.nx ≤ k
theorem FullI.nil : FullI ⟨[], 0⟩ (List.replicate 26 false) 0 0 :=
  ⟨Ok.nil, rfl, by decide, fun i h => (by cases h), by simp, fun j hj => by rw [List.getElem?_replicate, if_pos hj]; rfl, by decide, by decide⟩
theorem FullI.skip {s : St} {th : List Bool} {k n : Nat} (h : FullI s th k n) : FullI s th (k + 1) n := ⟨h.ok, h.len, h.n8, h.fil, h.tl, h.th, h.nx0, by have := h.nxk; omega⟩
section
variable {s : St} {th : List Bool} {k n j : Nat} (h : FullI s th k n) (hj : j < 26)
include h hj
theorem FullI.there (hb : th[j]? = some true) : ∃ i, look s.l (lt1 j) = some i ∧ i.d = false := by
  rw [h.th j hj] at hb
  cases hk : look s.l (lt1 j) with
  | none => rw [hk] at hb; cases hb
  | some i => exact ⟨i, rfl, h.fil i (look_mem hk)⟩
theorem FullI.not (hb : th[j]? = some false) : look s.l (lt1 j) = none := by
  rw [h.th j hj] at hb
  cases hk : look s.l (lt1 j) with
  | none => rfl
  | some i => rw [hk] at hb; cases hb
theorem FullI.make (hb : th[j]? = some false) (hn : n < 8) : FullI ⟨s.l ++ [⟨lt1 j, false, s.nx⟩], s.nx + 1⟩ (th.set j true) (k + 1) (n + 1) := by
  have hk := h.not hj hb
  obtain ⟨h1, h2⟩ := lt1_name hj
  refine ⟨h.ok.snoc h1 hk (fun e => absurd (by rw [h2]) e) (fun e => absurd (by rw [h2]) e), by simp [h.len], by omega, fun i hi => ?_, by simp [h.tl], fun x hx => ?_, by have := h.nx0; show 0 ≤ s.nx + 1; omega, by have := h.nxk; show s.nx + 1 ≤ ((k + 1 : Nat) : Int); omega⟩
  · rcases List.mem_append.1 hi with hi | hi
    · exact h.fil i hi
    · rw [List.mem_singleton.1 hi]
  · rw [List.getElem?_set, look_snoc]
    by_cases e : j = x
    · subst e
      rw [if_pos rfl, if_pos (by rw [h.tl]; exact hj), hk]
      simp
    · rw [if_neg e, h.th x hx]
      have : ¬ lt1 j = lt1 x := fun e2 => e (lt1_inj hj hx e2)
      cases look s.l (lt1 x) with
      | none => simp [this]
      | some i => rfl
theorem FullI.drop (hb : th[j]? = some true) : FullI ⟨s.l.eraseP (is (lt1 j)), s.nx⟩ (th.set j false) (k + 1) (n - 1) ∧ 1 ≤ n := by
  obtain ⟨i, hi, hd⟩ := h.there hj hb
  have hl := erase_len hi
  have hn := h.len
  refine ⟨⟨h.ok.erase (h.ok.none_in hi hd), by show (s.l.eraseP _).length = n - 1; omega, by have := h.n8; omega, fun x hx => h.fil x (erase_mem hx), by simp [h.tl], fun x hx => ?_, h.nx0, by have := h.nxk; show s.nx ≤ ((k + 1 : Nat) : Int); omega⟩, by omega⟩
  rw [List.getElem?_set]
  by_cases e : j = x
  · subst e
    rw [if_pos rfl, if_pos (by rw [h.tl]; exact hj), show look (s.l.eraseP (is (lt1 j))) (lt1 j) = none from look_erase_self h.ok _]
    rfl
  · rw [if_neg e, h.th x hx, show look (s.l.eraseP (is (lt1 j))) (lt1 x) = look s.l (lt1 x) from look_erase_ne (fun e2 => e (lt1_inj hj hx e2.symm))]
end
section
variable {T : TP} {W w : World} {v : Value} {g : Nat} {o : Obj} {s : St} {th : List Bool} {k n j : Nat} (C : TreeC T) (h : FullI s th k n) (M : Mg T W w v s g o)
include C h M
theorem full_len : Calls Try.prog 13 #[v] w fun e w' => e = .returned (.int .i64 n) ∧ Mg T W w' v s g o := by
  have := g_len C M h.ok (by have := h.len; have := h.n8; omega)
  rw [h.len] at this
  exact this
theorem full_make (hk : k ≤ 4611686018427387904) : Calls Try.prog 16 #[v, .string (bs (lt1 j)), .bool false] w fun e w' => e = .returned (mV (makeT s (lt1 j) false).1) ∧ Mg T W w' v (makeT s (lt1 j) false).2 g o :=
  g_make C M h.ok (by have := h.len; have := h.n8; omega) (bs (lt1 j)) (by rw [bs_size]; show 1 ≤ _; decide) false h.nx0 (by have := h.nxk; omega)
variable (hj : j < 26) (hk : k ≤ 4611686018427387904)
include hj hk
theorem full_there (hb : th[j]? = some true) : Calls Try.prog 16 #[v, .string (bs (lt1 j)), .bool false] w fun e w' => e = .returned (.tuple #[.int .i64 (-1), .int .u16 65297]) ∧ Mg T W w' v s g o := by
  have := full_make (j := j) C h M hk
  obtain ⟨i, hi, _⟩ := h.there hj hb
  rw [make_there (lt1_name hj).1 (lt1_abv hj _) hi] at this
  exact this
theorem full_full (hb : th[j]? = some false) (hn : n = 8) : Calls Try.prog 16 #[v, .string (bs (lt1 j)), .bool false] w fun e w' => e = .returned (.tuple #[.int .i64 (-1), .int .u16 65308]) ∧ Mg T W w' v s g o := by
  have := full_make (j := j) C h M hk
  rw [make_full (lt1_name hj).1 (lt1_abv hj _) (h.not hj hb) (by rw [h.len, hn]; exact Nat.le_refl _)] at this
  exact this
theorem full_new (hb : th[j]? = some false) (hn : n < 8) : Calls Try.prog 16 #[v, .string (bs (lt1 j)), .bool false] w fun e w' => e = .returned (.tuple #[.int .i64 s.nx, .int .u16 0]) ∧ Mg T W w' v ⟨s.l ++ [⟨lt1 j, false, s.nx⟩], s.nx + 1⟩ g o := by
  have := full_make (j := j) C h M hk
  rw [make_new (lt1_name hj).1 (lt1_abv hj _) (h.not hj hb) (by rw [h.len]; omega)] at this
  exact this
omit hj hk in
theorem full_drop : Calls Try.prog 17 #[v, .string (bs (lt1 j)), .bool false] w fun e w' => e = .returned (.int .u16 (dropT s (lt1 j) false).1) ∧ Mg T W w' v (dropT s (lt1 j) false).2 g o :=
  g_drop C M h.ok (by have := h.len; have := h.n8; omega) (bs (lt1 j)) (by rw [bs_size]; show 1 ≤ _; decide) false
omit hk in
theorem full_none (hb : th[j]? = some false) : Calls Try.prog 17 #[v, .string (bs (lt1 j)), .bool false] w fun e w' => e = .returned (.int .u16 65282) ∧ Mg T W w' v s g o := by
  have := full_drop (j := j) C h M
  rw [drop_none (lt1_name hj).1 (lt1_abv hj _) (h.not hj hb)] at this
  exact this
omit hk in
theorem full_file (hb : th[j]? = some true) : Calls Try.prog 17 #[v, .string (bs (lt1 j)), .bool false] w fun e w' => e = .returned (.int .u16 0) ∧ Mg T W w' v ⟨s.l.eraseP (is (lt1 j)), s.nx⟩ g o := by
  have := full_drop (j := j) C h M
  obtain ⟨i, hi, hd⟩ := h.there hj hb
  rw [drop_file (lt1_name hj).1 (lt1_abv hj _) hi hd] at this
  exact this
end
def bC (th : List Bool) : Array Value := (th.map Value.bool).toArray
theorem bC_at {th : List Bool} {j : Nat} {b : Bool} (h : th[j]? = some b) : (bC th)[j]? = some (.bool b) := by unfold bC; simp [h]
theorem bC_set {th : List Bool} {j : Nat} {b : Bool} : (bC th).setIfInBounds j (.bool b) = bC (th.set j b) := by unfold bC; simp [List.map_set]
theorem bC_new : madeCells #[.bool false] 26 = bC (List.replicate 26 false) := by kernel_rfl
/-- A slice of one letter, made a text. -/
theorem lt1_back (j : Nat) (hj : j < 26) (w : World) : (convert 52 9 (.slice (some ⟨w.heap.size, 0, none⟩) 1 1)).run Try.prog (w.alloc (.cells #[.int .u8 (97 + (j : Int))] 5)) = .ok (.string (bs (lt1 j))) (w.alloc (.cells #[.int .u8 (97 + (j : Int))] 5)) := by
  have := one_back w (97 + j) (by omega)
  rw [show ((97 + j : Nat) : Int) = 97 + (j : Int) by omega] at this
  exact this
set_option maxRecDepth 100000 in
set_option maxHeartbeats 4000000 in
theorem full_walk {T : TP} (C : TreeC T) (aw : AwT) {W : World} {A : Option Addr} {l : List Nat} {cap : Nat} (hl : ByIn W A l) (hc : l.length ≤ cap) (hm : cap ≤ 9223372036854775807) :
    Calls Try.prog 5 #[.slice A l.length cap] W fun e W' => e = .returned (.bool true) ∧ Gw W W' := by
  have hn : ∀ b w, (Op.unary .not (.bool b)).run Try.prog w = .ok (.bool (!b)) w := fun _ _ => rfl
  have hmk : ∀ w : World, (Instr.makeSlice 53 (.int .i64 26) (.int .i64 26)).run Try.prog w = .ok (.slice (some ⟨w.heap.size, 0, none⟩) 26 26) (w.alloc (.cells (madeCells #[.bool false] 26) 4)) := fun w => run_make_row' (P := Try.prog) 53 4 (.bool false) 1 Try.underlying53 (by kernel_rfl) rfl .i64 .i64 26 (by omega) (by omega) w
  have AW := aw W
  by_cases h200 : 200 < l.length
  · have h200' : (200 : Int) < l.length := by omega
    have NW : ∀ w, Gw W w → Calls Try.prog 10 #[.slice none 0 0] w fun e w' => ∃ a, e = .returned (.tuple #[.pointer (some a), .int .i64 0]) ∧ Mn T W w' (.pointer (some a)) ⟨[], 0⟩ := fun w G => m_new C G (EntAt.nil _) (by simp) (by decide) (s := ⟨[], 0⟩) rfl
    go_enter Try.func5, Try.ntmps5
    go_wp2_with (first
      | (go_at_call 8; with_reducible refine AW.mono ?_; rintro e w1 ⟨rfl, G1⟩)
      | (go_at_call 10; with_reducible refine (NW _ G1).mono ?_; rintro e w2 ⟨a, rfl, M⟩))
    go_ret
    exact ⟨rfl, M.gw⟩
  · have h200' : decide ((200 : Int) < l.length) = false := decide_eq_false (by omega)
    have NW : ∀ w, Gw W w → Calls Try.prog 10 #[.slice none 0 0] w fun e w' => ∃ a, e = .returned (.tuple #[.pointer (some a), .int .i64 0]) ∧ Mn T W w' (.pointer (some a)) ⟨[], 0⟩ := fun w G => m_new C G (EntAt.nil _) (by simp) (by decide) (s := ⟨[], 0⟩) rfl
    go_enter Try.func5, Try.ntmps5
    go_upto_region 6 with (first
      | (go_at_call 8; with_reducible refine AW.mono ?_; rintro e w1 ⟨rfl, G1⟩)
      | (go_at_call 10; with_reducible refine (NW _ G1).mono ?_; rintro e w2 ⟨a, rfl, M⟩))
    go_wp2_with fail
    go_loopw [6, 7, 8] (fun m la i wr => ∃ (k n : Nat) (s : St) (th : List Bool), k ≤ l.length ∧ i = .int .i64 k ∧ m = .int .i64 n ∧ la = .int .i64 (s.nx - 1) ∧ Hid (FullI s th k n) ∧ Hid (Mg T W wr (.pointer (some a)) s w2.heap.size (.cells (bC th) 4 (0, 0)))) (fun m la i _ => l.length - (intOf i).toNat)
    case atStart => exact ⟨0, 0, ⟨[], 0⟩, List.replicate 26 false, by omega, rfl, rfl, rfl, FullI.nil, by show Mg _ _ _ _ _ _ _; rw [← bC_new]; exact M.alloc C _⟩
    case round =>
      obtain ⟨k, n, s, th, hk, rfl, rfl, rfl, HF, HM⟩ := hrel
      by_cases hlt : k < l.length
      · obtain ⟨z, hz⟩ : ∃ z, l[k]? = some z := ⟨_, List.getElem?_eq_getElem hlt⟩
        obtain ⟨g, off, rfl, hg, hcl, hz255⟩ := (hl.on HM.out.gw) k z hz
        obtain ⟨j, hj⟩ : ∃ j : Nat, (z : Int) / 2 % 26 = j := ⟨z / 2 % 26, by omega⟩
        have hj26 : j < 26 := by omega
        have cv := lt1_back j hj26
        obtain ⟨b, hb⟩ : ∃ b, th[j]? = some b := ⟨_, List.getElem?_eq_getElem (by rw [HF.out.tl]; exact hj26)⟩
        have HB := Lib.hid hb
        have hbc : ∀ w' v' s', Mg T W w' v' s' w2.heap.size (.cells (bC th) 4 (0, 0)) → w'.cell? ⟨w2.heap.size, j, none⟩ = some (.bool b) ∧ w'.frozen? ⟨w2.heap.size, j, none⟩ = false := fun w' v' s' m => ⟨(Has.cell (show Has w' _ _ _ from m.hg) j).trans (bC_at hb), Has.free (show Has w' _ _ _ from m.hg) j⟩
        have hk2 : k ≤ 4611686018427387904 := by omega
        clear hz hb
        go_upto_region 13 with fail
        rw [hj]
        have hcl2 := (Gw.alloc wr (.cells #[.int .u8 (97 + (j : Int))] 5)).cell hcl
        have HM := Lib.hid (HM.out.on C (Gw.alloc wr (.cells #[.int .u8 (97 + (j : Int))] 5)))
        clear cv hcl
        generalize wr.alloc (.cells #[.int .u8 (97 + (j : Int))] 5) = w3 at *
        have n1 : (n : Int) + 1 ≤ 9 := by have := HF.out.n8; omega
        cases hq : (bits .and .u8 (z : Int) 1 == (0 : Int)) with
        | true =>
          cases b with
          | true =>
            have MK := full_there C HF.out HM.out hj26 hk2 HB.out
            go_upto_region 18 with (go_at_call 16; with_reducible refine MK.mono ?_; rintro e w4 ⟨rfl, M4⟩; have hb4 := (hbc _ _ _ M4).1; have LN := full_len C HF.out M4)
            go_wp2_with (go_at_call 13; with_reducible refine LN.mono ?_; rintro e w5 ⟨rfl, M5⟩)
            go_roundw
            case rel => exact ⟨k + 1, n, s, th, by omega, by go_num, rfl, rfl, HF.out.skip, M5⟩
            case measure => simp [intOf]; omega
          | false =>
            by_cases h8 : n = 8
            · have MK := full_full C HF.out HM.out hj26 hk2 HB.out h8
              have e8 : ((n : Int) == 8) = true := by rw [h8]; rfl
              clear h8
              go_upto_region 18 with (go_at_call 16; with_reducible refine MK.mono ?_; rintro e w4 ⟨rfl, M4⟩; have hb4 := (hbc _ _ _ M4).1; have LN := full_len C HF.out M4)
              go_wp2_with (go_at_call 13; with_reducible refine LN.mono ?_; rintro e w5 ⟨rfl, M5⟩)
              go_roundw
              case rel => exact ⟨k + 1, n, s, th, by omega, by go_num, rfl, rfl, HF.out.skip, M5⟩
              case measure => simp [intOf]; omega
            · have h9 : n < 8 := by have := HF.out.n8; omega
              have MK := full_new C HF.out HM.out hj26 hk2 HB.out h9
              have HF2 := Lib.hid (HF.out.make hj26 HB.out h9)
              have e8 : ((n : Int) == 8) = false := by simp; omega
              have x0 : 0 ≤ s.nx := HF.out.nx0
              have x1 : s.nx ≤ 9223372036854775807 := by have := HF.out.nxk; omega
              clear h8 h9
              go_upto_region 18 with (go_at_call 16; with_reducible refine MK.mono ?_; rintro e w4 ⟨rfl, M4⟩; obtain ⟨hb4, hf4⟩ := hbc _ _ _ M4; have LN := full_len C HF2.out (M4.put C j (.bool true)))
              go_wp2_with (go_at_call 13; with_reducible refine LN.mono ?_; rintro e w5 ⟨rfl, M5⟩)
              go_roundw
              case rel => exact ⟨k + 1, n + 1, _, _, by omega, by go_num, by go_num, by show Value.int _ _ = Value.int _ _; congr 1; show s.nx = s.nx + 1 - 1; omega, HF2.out, by rw [bC_set] at M5; exact M5⟩
              case measure => simp [intOf]; omega
        | false =>
          cases b with
          | true =>
            have MK := full_file C HF.out HM.out hj26 HB.out
            obtain ⟨h1, h2⟩ := HF.out.drop hj26 HB.out
            have HF2 := Lib.hid h1
            clear h1
            have n0 : (0 : Int) ≤ (n : Int) - 1 := by omega
            go_upto_region 25 with (go_at_call 17; with_reducible refine MK.mono ?_; rintro e w4 ⟨rfl, M4⟩; obtain ⟨hb4, hf4⟩ := hbc _ _ _ M4; have LN := full_len C HF2.out (M4.put C j (.bool false)))
            go_wp2_with (go_at_call 13; with_reducible refine LN.mono ?_; rintro e w5 ⟨rfl, M5⟩)
            go_roundw
            case rel => exact ⟨k + 1, n - 1, ⟨s.l.eraseP (is (lt1 j)), s.nx⟩, _, by omega, by go_num, by congr 1; omega, rfl, HF2.out, by rw [bC_set] at M5; exact M5⟩
            case measure => simp [intOf]; omega
          | false =>
            have MK := full_none C HF.out HM.out hj26 HB.out
            go_upto_region 25 with (go_at_call 17; with_reducible refine MK.mono ?_; rintro e w4 ⟨rfl, M4⟩; have hb4 := (hbc _ _ _ M4).1; have LN := full_len C HF.out M4)
            go_wp2_with (go_at_call 13; with_reducible refine LN.mono ?_; rintro e w5 ⟨rfl, M5⟩)
            go_roundw
            case rel => exact ⟨k + 1, n, s, th, by omega, by go_num, rfl, rfl, HF.out.skip, M5⟩
            case measure => simp [intOf]; omega
      · obtain rfl : k = l.length := by omega
        have hlt' : decide ((l.length : Int) < (l.length : Int)) = false := decide_eq_false (by omega)
        go_wp2_with fail
        go_ret
        exact ⟨rfl, HM.out.gw⟩
end Go.Proofs.Ytlnobekjcengfaa
