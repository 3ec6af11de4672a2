/-
  Normal of package clause: the literals, the library's sort by number, its compacting, and the look for a number that stands both ways.
-/
import Derived.Test.YtigomnbcalpohaaClauC
import Derived.Test.YtigomnbcalpohaaLib
import Derived.Shelf.SlSortCmp.NoneTotal
import Derived.Sort.OwnSortedInts
import Derived.Lib.RowBridge
import Derived.Deep.AppendLies
namespace Go.Proofs.Ytigomnbcalpohaa
open Go.ChangeShapes Go.WideShapes Go.ChangeAt Go.RowKit Go.Sort Go.Proofs
set_option linter.unusedVariables false

/-! ### The order, as the library's sort asks it -/
theorem cf_lt (x y : Int) : ltOf cfM x y = ltL x y := by
  unfold ltOf cfM cmpI ltL
  by_cases h1 : numb x < numb y
  · simp [h1]
  · by_cases h2 : numb y < numb x
    · simp [h1, h2]; omega
    · have e : numb x = numb y := by omega
      by_cases h3 : y < x
      · simp [e, h3]
      · by_cases h4 : x < y <;> simp [e, h3, h4]
theorem swo : SWO (ltOf cfM) where
  irrefl x := by rw [cf_lt]; exact ltL_irr x
  trans x y z h k := by rw [cf_lt] at *; exact ltL_trans h k
  ntrans x y z h k := by
    rw [cf_lt] at *
    unfold ltL at *; rw [decide_eq_false_iff_not] at *; omega
theorem cf_tot (x y : Int) (h : ltOf cfM x y = false) (k : ltOf cfM y x = false) : x = y := by rw [cf_lt] at *; exact ltL_tot h k

theorem sort_rise (s : List Int) : (s.mergeSort fun x y => !ltOf cfM y x).Pairwise fun x y => ltL y x = false := by
  have h := List.pairwise_mergeSort (le := fun x y => !ltOf cfM y x)
    (fun x y z h k => by simp [cf_lt] at *; exact (by
      have := swo.ntrans z y x (by rw [cf_lt]; exact k) (by rw [cf_lt]; exact h)
      rw [cf_lt] at this; exact this))
    (fun x y => by
      simp [cf_lt]
      cases h : ltL y x
      · exact .inl rfl
      · exact .inr (ltL_asymm h)) s
  exact h.imp fun h => by simpa [cf_lt] using h
theorem srt (c : List Int) : Lib.compact ((c.filter lit).mergeSort fun x y => !ltOf cfM y x) = row c :=
  (compact_rise (sort_rise _)).ext (row_spec c).1 fun x => by
    rw [compact_mem, List.mem_mergeSort, List.mem_filter, (row_spec c).2]


/-! ### byNumber -/
def orM (c : List Int) : Int := (c.find? fun x => x != 0).getD 0
theorem or_hit {c : List Int} {k : Nat} {x : Int} (h : (c.take k).all (fun x => x == 0) = true) (hx : c[k]? = some x) (h0 : x ≠ 0) : orM c = x := by
  have hk := (List.getElem?_eq_some_iff.1 hx)
  obtain ⟨hk, hk'⟩ := hk
  have e : c = c.take k ++ x :: c.drop (k + 1) := by
    rw [← hk', List.getElem_cons_drop, List.take_append_drop]
  unfold orM
  rw [e, List.find?_append, List.find?_eq_none.2 (fun y hy => by have := List.all_eq_true.1 h y hy; simp at this; simp [this])]
  simp [h0]
theorem or_miss {c : List Int} (h : c.all (fun x => x == 0) = true) : orM c = 0 := by
  unfold orM
  rw [List.find?_eq_none.2 (fun y hy => by have := List.all_eq_true.1 h y hy; simp at this; simp [this])]; rfl
set_option maxHeartbeats 800000 in
theorem or_any (A : Option Addr) (c : List Int) (cap : Nat) (w : World) (hc : SeqAt (Value.int .i64) w A c) (hn : c.length ≤ 9223372036854775807) :
    Calls Try.prog 38 #[.slice A c.length cap] w fun e w' => e = .returned (.int .i64 (orM c)) ∧ w = w' := by
  have HC := Lib.hid hc
  clear hc
  go_enter Try.func38, Try.ntmps38
  go_wp2_with fail
  go_loop [8] (fun i => ∃ k : Nat, k ≤ c.length ∧ i = .int .i64 k ∧ Hid ((c.take k).all (fun x => x == 0) = true)) (fun i => c.length - (intOf i).toNat)
  case atStart => exact ⟨0, by omega, rfl, by simp [Hid]⟩
  case round =>
    obtain ⟨k, hk, rfl, H⟩ := hrel
    by_cases hlt : k < c.length
    · obtain ⟨x, hz⟩ : ∃ x, c[k]? = some x := ⟨_, List.getElem?_eq_getElem hlt⟩
      obtain ⟨a, rfl, hcell⟩ := HC.out.get k x hz
      by_cases h0 : x = 0
      · subst h0
        have HE := Lib.hid (show (c.take (k + 1)).all (fun x => x == 0) = true by rw [all_take hz, H.out]; rfl)
        clear hz
        go_wp2_with fail
        go_round
        case rel => exact ⟨k + 1, by omega, by go_num, HE.out⟩
        case measure => simp [intOf]; omega
      · have HE := Lib.hid (or_hit H.out hz h0)
        have e1 : (x == 0) = false := by simpa using h0
        have e2 : (x != 0) = true := by simpa using h0
        clear hz h0
        go_wp2_with fail
        go_ret
        exact ⟨by rw [HE.out]; (first | done | rfl), rfl⟩
    · obtain rfl : k = c.length := by omega
      have HE := Lib.hid (or_miss (by have := H.out; rw [List.take_length] at this; exact this))
      clear H
      go_wp2_with fail
      go_ret
      exact ⟨by rw [HE.out]; (first | done | rfl), rfl⟩
theorem cmp_eq (x y : Int) : Lib.compareInt x y = cmpI x y := rfl
theorem cmp_any (x y : Int) (w : World) : Calls Try.prog 39 #[.int .i64 x, .int .i64 y] w fun e w' => e = .returned (.int .i64 (cmpI x y)) ∧ w = w' :=
  (Try.cmp_Compare_int x y w).mono fun _ _ ⟨he, hw⟩ => ⟨he, hw.symm⟩
theorem orM_cf (x y : Int) : orM [cmpI (numb x) (numb y), cmpI y x] = cfM x y := by
  unfold orM cfM
  by_cases h : cmpI (numb x) (numb y) = 0
  · rw [if_pos h, h]
    by_cases g : cmpI y x = 0
    · simp [g]
    · simp [g]
  · rw [if_neg h]; simp [h]
theorem two_at (w : World) (t : TypeId) (x y : Int) : SeqAt (Value.int .i64) (w.alloc (.cells #[.int .i64 x, .int .i64 y] t)) (some ⟨w.heap.size, 0, none⟩) [x, y] := by
  refine ⟨fun i z hz => ⟨_, rfl, ?_⟩⟩
  match i, hz with
  | 0, hz => simp at hz; subst hz; rw [show (⟨w.heap.size, 0, none⟩ : Addr).add 0 = ⟨w.heap.size, 0, none⟩ from rfl, World.cell?_alloc_at _ _ _ _ rfl]; rfl
  | 1, hz => simp at hz; subst hz; rw [show (⟨w.heap.size, 0, none⟩ : Addr).add 1 = ⟨w.heap.size, 1, none⟩ from rfl, World.cell?_alloc_at _ _ _ _ rfl]; rfl
theorem wrap64_eq (a : Int) : wrap64 a = IntKind.i64.wrap a := by unfold wrap64 IntKind.wrap; simp [IntKind.bits, IntKind.signed]; split <;> omega
theorem number_all (l : Int) (W : World) : Calls Try.prog 23 #[.int .i64 l] W fun e W' => e = .returned (.int .i64 (numb l)) ∧ W = W' := by
  by_cases h : l < 0
  · have HE := Lib.hid (show numb l = wrap64 (-l) by unfold numb; rw [if_pos h, wrap64_eq])
    go_enter Try.func23, Try.ntmps23
    go_wp2
    go_ret
    exact ⟨by rw [HE.out]; (first | done | rfl), rfl⟩
  · have h' : 0 ≤ l := by omega
    rw [numb_pos h']
    clear h
    go_enter Try.func23, Try.ntmps23
    go_wp2
    go_ret
    exact ⟨rfl, rfl⟩
theorem byNumber_any (x y : Int) (w : World) :
    Calls Try.prog 34 #[.int .i64 x, .int .i64 y] w fun e w' => e = .returned (.int .i64 (cfM x y)) ∧ ∃ q os', w' = grow (w.drewN q) os' := by
  have c1 := number_all x w
  have c2 := number_all y w
  have k1 := cmp_any (numb x) (numb y) w
  have k2 := cmp_any y x w
  have HO := Lib.hid (fun p q : Int => or_any (some ⟨w.heap.size, 0, none⟩) [p, q] 2 _ (two_at w 3 p q) (by simp))
  have HE := Lib.hid (orM_cf x y)
  generalize numb x = nx at *
  generalize numb y = ny at *
  generalize cmpI nx ny = p at *
  generalize cmpI y x = q at *
  have c3 := HO.out p q
  rw [HE.out] at c3
  generalize cfM x y = r at *
  go_enter Try.func34, Try.ntmps34
  go_wp2_with (first | (go_at_call 23; (first | ((with_reducible refine c1.mono ?_); rintro e w' ⟨rfl, rfl⟩) | ((with_reducible refine c2.mono ?_); rintro e w' ⟨rfl, rfl⟩))) | (go_at_call 39; (first | ((with_reducible refine k1.mono ?_); rintro e w' ⟨rfl, rfl⟩) | ((with_reducible refine k2.mono ?_); rintro e w' ⟨rfl, rfl⟩))) | (go_at_call 38; (refine c3.mono ?_); rintro e w' ⟨rfl, rfl⟩))
  go_ret
  exact ⟨rfl, 0, _, alloc_eq_grow _ _⟩
end Go.Proofs.Ytigomnbcalpohaa
