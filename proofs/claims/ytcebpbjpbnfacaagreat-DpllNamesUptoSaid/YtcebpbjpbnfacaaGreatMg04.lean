/-
  Parts of the proof, joined: ClauS, UnitP.
-/
import Derived.Test.YtcebpbjpbnfacaaGreatMg03
import Derived.Shelf.SlSortCmp.NoneTotal
import Derived.Sort.OwnSortedInts
import Derived.Lib.RowBridge
import Derived.Deep.AppendLies

/-
  Normal of package clause: the literals, the library's sort by number, its compacting, and the look for a number that stands both ways.
-/
namespace Go.Proofs.YtcebpbjpbnfacaaGreat
open Go.ChangeShapes Go.WideShapes Go.ChangeAt Go.RowKit Go.Sort Go.Proofs
set_option linter.unusedVariables false

/-! ### The order, as the library's sort asks it -/
theorem cf_lt (x y : Int) : ltOf cfM x y = ltL x y := by
  unfold ltOf cfM cmpI ltL
  by_cases h1 : numb x < numb y
  · simp [h1]
  · by_cases h2 : numb y < numb x
    · simp [h1, h2]; omega
    · have e : numb x = numb y := by omega
      by_cases h3 : y < x
      · simp [e, h3]
      · by_cases h4 : x < y <;> simp [e, h3, h4]
theorem swo : SWO (ltOf cfM) where
  irrefl x := by rw [cf_lt]; exact ltL_irr x
  trans x y z h k := by rw [cf_lt] at *; exact ltL_trans h k
  ntrans x y z h k := by
    rw [cf_lt] at *
    unfold ltL at *; rw [decide_eq_false_iff_not] at *; omega
theorem cf_tot (x y : Int) (h : ltOf cfM x y = false) (k : ltOf cfM y x = false) : x = y := by rw [cf_lt] at *; exact ltL_tot h k

theorem sort_rise (s : List Int) : (s.mergeSort fun x y => !ltOf cfM y x).Pairwise fun x y => ltL y x = false := by
  have h := List.pairwise_mergeSort (le := fun x y => !ltOf cfM y x)
    (fun x y z h k => by simp [cf_lt] at *; exact (by
      have := swo.ntrans z y x (by rw [cf_lt]; exact k) (by rw [cf_lt]; exact h)
      rw [cf_lt] at this; exact this))
    (fun x y => by
      simp [cf_lt]
      cases h : ltL y x
      · exact .inl rfl
      · exact .inr (ltL_asymm h)) s
  exact h.imp fun h => by simpa [cf_lt] using h
theorem srt (c : List Int) : Lib.compact ((c.filter lit).mergeSort fun x y => !ltOf cfM y x) = row c :=
  (compact_rise (sort_rise _)).ext (row_spec c).1 fun x => by
    rw [compact_mem, List.mem_mergeSort, List.mem_filter, (row_spec c).2]


/-! ### byNumber -/
def orM (c : List Int) : Int := (c.find? fun x => x != 0).getD 0
theorem or_hit {c : List Int} {k : Nat} {x : Int} (h : (c.take k).all (fun x => x == 0) = true) (hx : c[k]? = some x) (h0 : x ≠ 0) : orM c = x := by
  have hk := (List.getElem?_eq_some_iff.1 hx)
  obtain ⟨hk, hk'⟩ := hk
  have e : c = c.take k ++ x :: c.drop (k + 1) := by
    rw [← hk', List.getElem_cons_drop, List.take_append_drop]
  unfold orM
  rw [e, List.find?_append, List.find?_eq_none.2 (fun y hy => by have := List.all_eq_true.1 h y hy; simp at this; simp [this])]
  simp [h0]
theorem or_miss {c : List Int} (h : c.all (fun x => x == 0) = true) : orM c = 0 := by
  unfold orM
  rw [List.find?_eq_none.2 (fun y hy => by have := List.all_eq_true.1 h y hy; simp at this; simp [this])]; rfl
set_option maxHeartbeats 800000 in
theorem or_any (A : Option Addr) (c : List Int) (cap : Nat) (w : World) (hc : SeqAt (Value.int .i64) w A c) (hn : c.length ≤ 9223372036854775807) :
    Calls Tryz.prog 138 #[.slice A c.length cap] w fun e w' => e = .returned (.int .i64 (orM c)) ∧ w = w' := by
  have HC := Lib.hid hc
  clear hc
  go_enter Tryz.func138, Tryz.ntmps138
  go_wp2_with fail
  go_loop [8] (fun i => ∃ k : Nat, k ≤ c.length ∧ i = .int .i64 k ∧ Hid ((c.take k).all (fun x => x == 0) = true)) (fun i => c.length - (intOf i).toNat)
  case atStart => exact ⟨0, by omega, rfl, by simp [Hid]⟩
  case round =>
    obtain ⟨k, hk, rfl, H⟩ := hrel
    by_cases hlt : k < c.length
    · obtain ⟨x, hz⟩ : ∃ x, c[k]? = some x := ⟨_, List.getElem?_eq_getElem hlt⟩
      obtain ⟨a, rfl, hcell⟩ := HC.out.get k x hz
      by_cases h0 : x = 0
      · subst h0
        have HE := Lib.hid (show (c.take (k + 1)).all (fun x => x == 0) = true by rw [all_take hz, H.out]; rfl)
        clear hz
        go_wp2_with fail
        go_round
        case rel => exact ⟨k + 1, by omega, by go_num, HE.out⟩
        case measure => simp [intOf]; omega
      · have HE := Lib.hid (or_hit H.out hz h0)
        have e1 : (x == 0) = false := by simpa using h0
        have e2 : (x != 0) = true := by simpa using h0
        clear hz h0
        go_wp2_with fail
        go_ret
        exact ⟨by rw [HE.out]; (first | done | rfl), rfl⟩
    · obtain rfl : k = c.length := by omega
      have HE := Lib.hid (or_miss (by have := H.out; rw [List.take_length] at this; exact this))
      clear H
      go_wp2_with fail
      go_ret
      exact ⟨by rw [HE.out]; (first | done | rfl), rfl⟩
theorem cmp_eq (x y : Int) : Lib.compareInt x y = cmpI x y := rfl
theorem cmp_any (x y : Int) (w : World) : Calls Tryz.prog 139 #[.int .i64 x, .int .i64 y] w fun e w' => e = .returned (.int .i64 (cmpI x y)) ∧ w = w' :=
  (Tryz.cmp_Compare_int x y w).mono fun _ _ ⟨he, hw⟩ => ⟨he, hw.symm⟩
theorem orM_cf (x y : Int) : orM [cmpI (numb x) (numb y), cmpI y x] = cfM x y := by
  unfold orM cfM
  by_cases h : cmpI (numb x) (numb y) = 0
  · rw [if_pos h, h]
    by_cases g : cmpI y x = 0
    · simp [g]
    · simp [g]
  · rw [if_neg h]; simp [h]
theorem two_at (w : World) (t : TypeId) (x y : Int) : SeqAt (Value.int .i64) (w.alloc (.cells #[.int .i64 x, .int .i64 y] t)) (some ⟨w.heap.size, 0, none⟩) [x, y] := by
  refine ⟨fun i z hz => ⟨_, rfl, ?_⟩⟩
  match i, hz with
  | 0, hz => simp at hz; subst hz; rw [show (⟨w.heap.size, 0, none⟩ : Addr).add 0 = ⟨w.heap.size, 0, none⟩ from rfl, World.cell?_alloc_at _ _ _ _ rfl]; rfl
  | 1, hz => simp at hz; subst hz; rw [show (⟨w.heap.size, 0, none⟩ : Addr).add 1 = ⟨w.heap.size, 1, none⟩ from rfl, World.cell?_alloc_at _ _ _ _ rfl]; rfl
theorem wrap64_eq (a : Int) : wrap64 a = IntKind.i64.wrap a := by unfold wrap64 IntKind.wrap; simp [IntKind.bits, IntKind.signed]; split <;> omega
theorem number_all (l : Int) (W : World) : Calls Tryz.prog 57 #[.int .i64 l] W fun e W' => e = .returned (.int .i64 (numb l)) ∧ W = W' := by
  by_cases h : l < 0
  · have HE := Lib.hid (show numb l = wrap64 (-l) by unfold numb; rw [if_pos h, wrap64_eq])
    go_enter Tryz.func57, Tryz.ntmps57
    go_wp2
    go_ret
    exact ⟨by rw [HE.out]; (first | done | rfl), rfl⟩
  · have h' : 0 ≤ l := by omega
    rw [numb_pos h']
    clear h
    go_enter Tryz.func57, Tryz.ntmps57
    go_wp2
    go_ret
    exact ⟨rfl, rfl⟩
theorem byNumber_any (x y : Int) (w : World) :
    Calls Tryz.prog 109 #[.int .i64 x, .int .i64 y] w fun e w' => e = .returned (.int .i64 (cfM x y)) ∧ ∃ q os', w' = grow (w.drewN q) os' := by
  have c1 := number_all x w
  have c2 := number_all y w
  have k1 := cmp_any (numb x) (numb y) w
  have k2 := cmp_any y x w
  have HO := Lib.hid (fun p q : Int => or_any (some ⟨w.heap.size, 0, none⟩) [p, q] 2 _ (two_at w 3 p q) (by simp))
  have HE := Lib.hid (orM_cf x y)
  generalize numb x = nx at *
  generalize numb y = ny at *
  generalize cmpI nx ny = p at *
  generalize cmpI y x = q at *
  have c3 := HO.out p q
  rw [HE.out] at c3
  generalize cfM x y = r at *
  go_enter Tryz.func109, Tryz.ntmps109
  go_wp2_with (first | (go_at_call 57; (first | ((with_reducible refine c1.mono ?_); rintro e w' ⟨rfl, rfl⟩) | ((with_reducible refine c2.mono ?_); rintro e w' ⟨rfl, rfl⟩))) | (go_at_call 139; (first | ((with_reducible refine k1.mono ?_); rintro e w' ⟨rfl, rfl⟩) | ((with_reducible refine k2.mono ?_); rintro e w' ⟨rfl, rfl⟩))) | (go_at_call 138; (refine c3.mono ?_); rintro e w' ⟨rfl, rfl⟩))
  go_ret
  exact ⟨rfl, 0, _, alloc_eq_grow _ _⟩
end Go.Proofs.YtcebpbjpbnfacaaGreat

/-
  Normal of package clause: what it answers at every clause.
-/
namespace Go.Proofs.YtcebpbjpbnfacaaGreat
open Go.ChangeShapes Go.WideShapes Go.ChangeAt Go.RowKit Go.Sort Go.Proofs
set_option linter.unusedVariables false

/-- What Normal answers. -/
def NormPost (c : List Int) (w : World) (e : Ending) (w' : World) : Prop := ∃ A cap, e = .returned (.tuple #[.slice A (nrm c).1.length cap, .bool (nrm c).2]) ∧ SeqAt (Value.int .i64) w' A (nrm c).1 ∧ Below w.heap.size w w' ∧ ∀ a, A = some a → w.heap.size ≤ a.block
theorem nrm_yes {c : List Int} (h : taut (row c) = true) : nrm c = ([], true) := by unfold nrm; simp [h]
theorem nrm_no {c : List Int} (h : taut (row c) = false) : nrm c = (row c, false) := by unfold nrm; simp [h]
/-- No two neighbours among the first k stand against each other. -/
def Apart (s : List Int) (k : Nat) : Prop := ∀ (j : Nat) (x y : Int), j + 1 < k → s[j]? = some x → s[j + 1]? = some y → y ≠ -x
theorem Apart.more {s : List Int} {k : Nat} {x y : Int} (h : Apart s k) (k1 : 1 ≤ k) (hx : s[k - 1]? = some x) (hy : s[k]? = some y) (hn : y ≠ -x) : Apart s (k + 1) := by
  intro j x' y' hj h1 h2
  by_cases e : j = k - 1
  · subst e
    rw [hx] at h1; injection h1 with h1; subst h1
    rw [show k - 1 + 1 = k by omega, hy] at h2; injection h2 with h2; subst h2
    exact hn
  · exact h j x' y' (by omega) h1 h2
theorem Apart.taut {s : List Int} {k : Nat} (h : Apart s k) (hk : s.length ≤ k) : taut s = false := by
  cases ht : Go.Proofs.YtcebpbjpbnfacaaGreat.taut s
  · rfl
  · obtain ⟨i, x, y, h1, h2, h3⟩ := taut_iff.1 ht
    have := (List.getElem?_eq_some_iff.1 h2).1
    exact absurd h3 (h i x y (by omega) h1 h2)
theorem taut_of {s : List Int} {k : Nat} {x y : Int} (k1 : 1 ≤ k) (hx : s[k - 1]? = some x) (hy : s[k]? = some y) (he : y = -x) : taut s = true :=
  taut_iff.2 ⟨k - 1, x, y, hx, by rw [show k - 1 + 1 = k by omega]; exact hy, he⟩
theorem cmp_lays (blk off size : Nat) (w : World) : CmpLays1 Tryz.prog 109 #[] (Value.int .i64) cfM blk off size w :=
  fun m os dk hs x y => byNumber_any x y _
/-- The call's own row, sorted. -/
def SortPost (g n cap base : Nat) (l : List Int) (w w' : World) : Prop := w'.ownsRow base 3 1 (.slice (some ⟨g, 0, none⟩) n cap) n (ints l) ∧ Below base w w'
theorem own_block {w : World} {base g n cap : Nat} {e : TypeId} {l : List Int} (h : w.ownsRow base e 1 (.slice (some ⟨g, 0, none⟩) n cap) n (ints l)) : ∃ cur, base ≤ g ∧ w.heap[g]? = some (.cells cur e (0, 0)) ∧ n ≤ cap ∧ cap ≤ maxLen ∧ cur.size = cap * 1 ∧ cur.toList.take l.length = ints l ∧ n = l.length := by
  rcases h.2 with ⟨h0, _⟩ | ⟨g', c, cur, h0, hb, hg, h1, h2, h3, h4⟩
  · cases h0
  · injection h0 with h0 h5 h6
    injection h0 with h0; injection h0 with h0; subst h0; subst h6
    have hn : n = l.length := by have := h.1; simpa using this.symm
    exact ⟨cur, hb, hg, h1, h2, h3, by rw [← hn]; simpa using h4, hn⟩
theorem sort_any (w : World) (base g cap : Nat) (l : List Int) (hb : base ≤ w.heap.size) (h : w.ownsRow base 3 1 (.slice (some ⟨g, 0, none⟩) l.length cap) l.length (ints l)) (hl : l.length ≤ 100000) :
    Calls Tryz.prog 108 #[.slice (some ⟨g, 0, none⟩) l.length cap, .func (.func 109) #[] #[]] w fun e w' => e = .returned (.tuple #[]) ∧ SortPost g l.length cap base (l.mergeSort fun x y => !ltOf cfM y x) w w' := by
  obtain ⟨cur, hbg, hg, h1, h2, h3, h4, _⟩ := own_block h
  have hH : Holds (Value.int .i64) w g 0 l.toArray := holds_of_blockI hg (by rw [h4])
  have eg : ∀ args w, (callFunc 109 args).run Tryz.prog w = .ok (.enter 109 args) w := enters_of Tryz.func109 (by kernel_rfl) rfl
  have c := Tryz.slices_SortFunc_total (Value.int .i64) (fun _ => rfl) cfM swo 109 #[] g 0 cap l.toArray w eg (cmp_lays _ _ _ _) hH (lt_of_heap hg) (by simp; omega) cf_tot
  refine c.mono fun e w' ⟨he, n, os, hw⟩ => ⟨he, ?_, ?_⟩
  · rw [hw]
    exact ownsRow_sortedI (ss := l) (by simp) hbg hg h1 h2 h3
  · rw [hw]
    exact (Below.refl base w).grown (grownBy_sortedI _) hb (fun k hk => by injection hk with hk; omega)
theorem compact_any (w : World) (base g cap : Nat) (l : List Int) (hb : base ≤ w.heap.size) (h : w.ownsRow base 3 1 (.slice (some ⟨g, 0, none⟩) l.length cap) l.length (ints l)) (hl : l.length ≤ 100000) :
    Calls Tryz.prog 110 #[.slice (some ⟨g, 0, none⟩) l.length cap] w fun e w' => e = .returned (.slice (some ⟨g, 0, none⟩) (Lib.compact l).length cap) ∧ SeqAt (Value.int .i64) w' (some ⟨g, 0, none⟩) (Lib.compact l) ∧ Below base w w' := by
  obtain ⟨cur, hbg, hg, h1, h2, h3, h4, _⟩ := own_block h
  have hH : Holds (Value.int .i64) w g 0 l.toArray := holds_of_blockI hg (by rw [h4])
  have c := Tryz.slices_Compact_int g 0 cap l w hH (by omega) h1
  have hle := Lib.compact_length_le l
  refine c.mono fun e w' ⟨he, q, hw⟩ => ⟨he, ?_, ?_⟩
  · have ho := ownsRow_sortedI (n := q) (os := #[]) (ss := l) (ts := Lib.compact l ++ List.replicate (l.length - (Lib.compact l).length) 0) (by simp; omega) hbg hg h1 h2 h3
    rw [grow_empty, ← hw] at ho
    have := seq_of_own ho (Lib.compact l).length
    rwa [List.take_left] at this
  · rw [hw]
    have := grownBy_sortedI (w := w) (g := g) (n := q) (os := #[]) (Lib.compact l ++ List.replicate (l.length - (Lib.compact l).length) 0).toArray
    rw [grow_empty] at this
    exact (Below.refl base w).grown this hb (fun k hk => by injection hk with hk; omega)
theorem Below.draws {B : Nat} {a w : World} (h : Below B a w) (n : Nat) : Below B a (w.drewN n) := ⟨h.os, h.tape, h.output, h.size, h.block⟩
theorem add_at (g j : Nat) : (⟨g, 0, none⟩ : Addr).add j = ⟨g, j, none⟩ := by unfold Addr.add; split <;> simp_all
theorem lit_own {c : List Int} {w w' : World} {A : Option Addr} {n cap : Nat} {l : List Int} (h : LRel w w' 3 (.slice A n cap) (ints l)) (h0 : 0 < l.length) : n = l.length ∧ ∃ g, A = some ⟨g, 0, none⟩ ∧ w'.ownsRow w.heap.size 3 1 (.slice (some ⟨g, 0, none⟩) l.length cap) l.length (ints l) := by
  have ho := h.own
  rw [List.length_map] at ho
  rcases ho.2 with ⟨h1, h2⟩ | ⟨g, c2, cur, h1, _⟩
  · omega
  · injection h1 with h1 h2 h3
    subst h1; subst h2
    exact ⟨rfl, g, rfl, ho⟩
theorem look_step {s : List Int} {w W : World} {A : Option Addr} {j : Nat} (h : SeqAt (Value.int .i64) w A s) (hj : j + 1 < s.length) (q : Nat) (hW : W = w.drewN q) :
    ∃ a x y, A = some a ∧ s[j]? = some x ∧ s[j + 1]? = some y ∧ W.cell? (a.add j) = some (.int .i64 x) ∧ W.cell? (a.add (j + 1)) = some (.int .i64 y) := by
  obtain ⟨x, hx⟩ : ∃ x, s[j]? = some x := ⟨_, List.getElem?_eq_getElem (by omega)⟩
  obtain ⟨y, hy⟩ : ∃ y, s[j + 1]? = some y := ⟨_, List.getElem?_eq_getElem hj⟩
  obtain ⟨a, ha, hc⟩ := h.get j x hx
  obtain ⟨a', ha', hc'⟩ := h.get (j + 1) y hy
  rw [ha] at ha'; injection ha' with ha'; subst ha'
  exact ⟨a, x, y, ha, hx, hy, by rw [hW]; exact hc, by rw [hW]; exact hc'⟩
theorem own_new {w w' : World} {e : TypeId} {A : Option Addr} {n cap : Nat} {l : List Value} (h : LRel w w' e (.slice A n cap) l) : ∀ a, A = some a → w.heap.size ≤ a.block := by
  intro a ha
  subst ha
  rcases h.own.2 with ⟨h1, _⟩ | ⟨g, c2, cur, h1, hb, _⟩
  · cases h1
  · injection h1 with h1 _ _; injection h1 with h1; subst h1; exact hb
set_option maxHeartbeats 1600000 in
theorem normal_any (A : Option Addr) (c : List Int) (cap : Nat) (w : World) (hc : SeqAt (Value.int .i64) w A c) (hw : ∀ l ∈ c, Wf l) (hn : c.length ≤ 100000) :
    Calls Tryz.prog 75 #[.slice A c.length cap] w (NormPost c w) := by
  have KL := Lib.hid (literals_any A c cap w hc hw hn)
  have HW := Lib.hid (fun x (hx : x ∈ row c) => hw x (row_mem hx))
  have HL := Lib.hid (fun x (hx : x ∈ row c) => row_lit hx)
  have hfl : (c.filter lit).length ≤ 100000 := Nat.le_trans (List.length_filter_le _ _) hn
  have hrl : (row c).length ≤ 100000 := Nat.le_trans (row_len c) hn
  clear hc hw
  by_cases he : c.filter lit = []
  · have hrow : row c = [] := List.eq_nil_iff_forall_not_mem.2 fun x hx => by have := List.mem_filter.2 ⟨row_mem hx, row_lit hx⟩; rw [he] at this; cases this
    have HR := Lib.hid (show nrm c = ([], false) by unfold nrm; rw [hrow]; rfl)
    clear hrow
    have cs := fun (p : Option Addr) (cp : Nat) (W : World) => (Tryz.slices_SortFunc_none (α := Int) p cp (.func (.func 109) #[] #[]) W)
    have cc := fun (p : Option Addr) (cp : Nat) (W : World) => (Tryz.slices_Compact_int_empty p cp W)
    have HK := Lib.hid he
    clear he hfl
    go_enter Tryz.func75, Tryz.ntmps75
    go_wp2_with fail
    refine KL.out.mono ?_
    rintro e w1 ⟨B, bcap, rfl, R⟩
    rw [HK.out] at R ⊢
    have HB := Lib.hid R.below
    have HQ := Lib.hid (seq_own (xs := ([] : List Int)) R.own)
    have HN := Lib.hid (own_new R)
    clear R
    go_wp2_with fail
    refine (cs _ _ _).mono ?_
    rintro e w2 ⟨rfl, rfl⟩
    go_wp2_with fail
    refine (cc _ _ _).mono ?_
    rintro e w2 ⟨rfl, rfl⟩
    go_wp2_with fail
    refine wp_loop_rounds 1 ?_
    rw [rounds_succ]
    go_wp2_with fail
    go_ret2
    exact ⟨B, bcap, by rw [HR.out]; (first | done | rfl), by rw [HR.out]; exact HQ.out, HB.out, HN.out⟩
  · have HS := Lib.hid (srt c)
    have hne : 0 < (c.filter lit).length := List.length_pos_iff.2 he
    have HN := Lib.hid hne
    have HFL := Lib.hid hfl
    clear he hfl hne
    unfold LitPost at KL
    generalize c.filter lit = l at *
    go_enter Tryz.func75, Tryz.ntmps75
    go_wp2_with fail
    refine KL.out.mono ?_
    rintro e w1 ⟨B, bcap, rfl, R⟩
    have HB := Lib.hid R.below
    obtain ⟨_, g, rfl, ho⟩ := lit_own (c := c) R HN.out
    have c1 := sort_any w1 w.heap.size g bcap l R.below.size ho HFL.out
    have HG : Hid (w.heap.size ≤ g) := by obtain ⟨_, hb, _⟩ := own_block ho; exact hb
    clear R ho
    go_wp2_with fail
    refine c1.mono ?_
    rintro e w2 ⟨rfl, ho2, hb2⟩
    rw [← List.length_mergeSort (l := l) (le := fun x y => !ltOf cfM y x)] at ho2 ⊢
    have c2 := compact_any w2 w.heap.size g bcap _ (Nat.le_trans HB.out.size hb2.size) ho2 (by rw [List.length_mergeSort]; exact HFL.out)
    rw [HS.out] at c2
    have HB2 := Lib.hid (HB.out.trans hb2)
    clear c1 ho2 hb2
    generalize (l.mergeSort fun x y => !ltOf cfM y x).length = m at *
    go_wp2_with fail
    refine c2.mono ?_
    rintro e w3 ⟨rfl, hs3, hb3⟩
    have HQ := Lib.hid hs3
    have HB3 := Lib.hid (HB2.out.trans hb3)
    clear hs3 hb3 c2
    have HT := Lib.hid (fun h => nrm_yes (c := c) h)
    have HTN := Lib.hid (fun h => nrm_no (c := c) h)
    generalize row c = s at *
    go_wp2_with fail
    go_loopw [5] (fun i wr => ∃ j q : Nat, (j = 0 ∨ j < s.length) ∧ i = .int .i64 ((j : Int) + 1) ∧ Hid (wr = w3.drewN q) ∧ Hid (Apart s (j + 1))) (fun i _ => s.length + 1 - (intOf i).toNat)
    case atStart => exact ⟨0, 0, .inl rfl, rfl, rfl, fun j x y hj => by omega⟩
    case round =>
      obtain ⟨j, q, hj, rfl, hwr, H⟩ := hrel
      by_cases hlt : j + 1 < s.length
      · obtain ⟨a, x, y, ha, hx, hy, hcx, hcy⟩ := look_step HQ.out hlt q hwr.out
        injection ha with ha
        subst ha
        rw [add_at] at hcx hcy
        have hwy := HW.out y (List.mem_of_getElem? hy)
        have hly := (lit_iff hwy).1 (HL.out y (List.mem_of_getElem? hy))
        have y1 : -9223372036854775807 ≤ y := by have := hwy.1; omega
        have y2 : y ≤ 9223372036854775807 := hwy.2
        have w1 : IntKind.i64.wrap (-y) = -y := wrap_in (by omega) (by omega)
        have w2 : IntKind.i64.wrap ((j : Int) + 1 - 1) = (j : Int) := by rw [show (j : Int) + 1 - 1 = j by omega]; exact wrap_in (by omega) (by omega)
        have w4 : IntKind.i64.wrap (j : Int) = (j : Int) := wrap_in (by omega) (by omega)
        have i0 : (0 : Int) ≤ (j : Int) + 1 := by omega
        have i1 : (j : Int) + 1 < (s.length : Int) := by omega
        have i2 : (j : Int) < (s.length : Int) := by omega
        have i3 : ((j : Int) + 1).toNat = j + 1 := by omega
        by_cases e : y = -x
        · have HE := Lib.hid (HT.out (taut_of (k := j + 1) (by omega) hx hy e))
          have e1 : (x == -y) = true := by simp; omega
          clear hx hy e hj hly hwy
          go_wp2_with fail
          go_quiet (fail)
          go_wp2_with fail
          go_ret2
          exact ⟨none, 0, by rw [HE.out]; (first | done | rfl), by rw [HE.out]; exact SeqAt.nil _ _, by rw [hwr.out, World.drewN_drewN]; exact Below.draws HB3.out _, fun a ha => by cases ha⟩
        · have HE := Lib.hid (H.out.more (by omega) hx hy e)
          have e1 : (x == -y) = false := by simp; omega
          clear hx hy e hj hly hwy
          go_wp2_with fail
          go_quiet (fail)
          go_wp2_with fail
          go_roundw
          case rel => exact ⟨j + 1, q + nq, .inr hlt, by go_num, (show _ = _ from by rw [hwr.out, World.drewN_drewN]), HE.out⟩
          case measure => simp [intOf]; omega
      · have HE := Lib.hid (HTN.out (H.out.taut (by omega)))
        go_wp2_with fail
        go_ret2
        exact ⟨_, _, by rw [HE.out]; (first | done | rfl), by rw [HE.out, hwr.out]; exact HQ.out.keep (Below.draws (Below.refl _ _) q), by rw [hwr.out]; exact Below.draws HB3.out q, fun a ha => by injection ha with ha; subst ha; exact HG.out⟩
end Go.Proofs.YtcebpbjpbnfacaaGreat
