/-
  Parts of the proof, joined: ClauC, ClauN, Lib.
-/
import Derived.Test.YtcebpbjpbnfacaaGreatMg02
import Derived.Deep.AppendLies
import Derived.Laws.Rows
import Derived.Shelf.Small.Wraps
import Derived.Ground.Names2Prog
import Derived.Shelf.Slices.CompactI
import Derived.Ground.SlsfProg
import Derived.Shelf.SlSortCmp.NoneTotal
import Derived.Ground.NamesProg
import Derived.Test.YtcebpbjpbnfacaaGreatProg

/-
  May of package clause, FormulaMay of the document's own answer, and the law's own same and Small.
-/
namespace Go.Proofs.YtcebpbjpbnfacaaGreat
open Go.ChangeShapes Go.WideShapes Go.ChangeAt Go.RowKit
set_option linter.unusedVariables false

def okF (n : Int) (f : List (List Int)) : Bool := f.all fun c => c.all (okL n)
theorem may_of {n : Int} {f : List (List Int)} (h0 : 0 ≤ n) (h1 : n ≤ 65536) : mayM n f = okF n f := by unfold mayM okF; simp [h0, h1]
theorem may_out {n : Int} {f : List (List Int)} (h : ¬ (0 ≤ n ∧ n ≤ 65536)) : mayM n f = false := by unfold mayM; rw [decide_eq_false h]; rfl
theorem all_take {p : Int → Bool} {c : List Int} {k : Nat} {l : Int} (h : c[k]? = some l) : (c.take (k + 1)).all p = ((c.take k).all p && p l) := by
  have hk := (List.getElem?_eq_some_iff.1 h).1
  rw [List.take_succ_eq_append_getElem hk, List.all_append, (List.getElem?_eq_some_iff.1 h).2]; simp
theorem okF_take {n : Int} {f : List (List Int)} {k : Nat} {c : List Int} (h : f[k]? = some c) : okF n (f.take (k + 1)) = (okF n (f.take k) && c.all (okL n)) := by
  have hk := (List.getElem?_eq_some_iff.1 h).1
  unfold okF
  rw [List.take_succ_eq_append_getElem hk, List.all_append, (List.getElem?_eq_some_iff.1 h).2]; simp
theorem okF_no {n : Int} {f : List (List Int)} {k j : Nat} {c : List Int} {l : Int} (h : f[k]? = some c) (g : c[j]? = some l) (hl : okL n l = false) : okF n f = false := by
  unfold okF; rw [List.all_eq_false]
  refine ⟨c, List.mem_of_getElem? h, ?_⟩
  rw [Bool.not_eq_true, List.all_eq_false]
  exact ⟨l, List.mem_of_getElem? g, by rw [hl]; simp⟩
set_option maxHeartbeats 1600000 in
theorem may_any (n : Int) (A : Option Addr) (f : List (List Int)) (fcap : Nat) (w : World) (hn : Wf n) (hf : FormAt w A f) (hl : f.length ≤ 9223372036854775807) :
    Calls Tryz.prog 31 #[.int .i64 n, .slice A f.length fcap] w fun e w' => e = .returned (.bool (mayM n f)) ∧ w = w' := by
  have HF := Lib.hid hf
  clear hf
  by_cases h0 : n < 0
  · have HE := Lib.hid (may_out (f := f) (n := n) (by omega))
    go_enter Tryz.func31, Tryz.ntmps31
    go_wp2_with fail
    go_ret
    exact ⟨by rw [HE.out]; (first | done | rfl), rfl⟩
  by_cases h1 : 65536 < n
  · have h0' : 0 ≤ n := by omega
    have HE := Lib.hid (may_out (f := f) (n := n) (by omega))
    clear h0
    go_enter Tryz.func31, Tryz.ntmps31
    go_wp2_with fail
    go_ret
    exact ⟨by rw [HE.out]; (first | done | rfl), rfl⟩
  have h2 : 0 ≤ n := by omega
  have h3 : n ≤ 65536 := by omega
  clear h0 h1 hn
  rw [may_of h2 h3]
  go_enter Tryz.func31, Tryz.ntmps31
  go_wp2_with fail
  go_loop [18] (fun i => ∃ k : Nat, k ≤ f.length ∧ i = .int .i64 k ∧ Hid (okF n (f.take k) = true)) (fun i => f.length - (intOf i).toNat)
  case atStart => exact ⟨0, by omega, rfl, by simp [Hid, okF]⟩
  case round =>
    obtain ⟨k, hk, rfl, H⟩ := hrel
    by_cases hlt : k < f.length
    · obtain ⟨c, hz⟩ : ∃ c, f[k]? = some c := ⟨_, List.getElem?_eq_getElem hlt⟩
      obtain ⟨a, C, ccap, rfl, hcell, hcs, hcl⟩ := HF.out.get k c hz
      have HS := Lib.hid hcs
      have HW := Lib.hid (HF.out.wf c (List.mem_of_getElem? hz))
      have HZ := Lib.hid hz
      clear hcs hz
      go_wp2_with fail
      go_loop [24] (fun i => ∃ j : Nat, j ≤ c.length ∧ i = .int .i64 j ∧ Hid ((c.take j).all (okL n) = true)) (fun i => c.length - (intOf i).toNat)
      case atStart => exact ⟨0, by omega, rfl, by simp [Hid]⟩
      case round =>
        obtain ⟨j, hj, rfl, G⟩ := hrel
        by_cases hjl : j < c.length
        · obtain ⟨l, hz⟩ : ∃ l, c[j]? = some l := ⟨_, List.getElem?_eq_getElem hjl⟩
          obtain ⟨aC, rfl, hcc⟩ := HS.out.get j l hz
          have ch := number_any l w (HW.out l (List.mem_of_getElem? hz))
          have HL := Lib.hid (show okL n l = decide (1 ≤ numb l ∧ numb l ≤ n) from rfl)
          have GZ := Lib.hid hz
          clear hz
          generalize numb l = v at ch HL
          by_cases v1 : v < 1
          · have HE := Lib.hid (okF_no HZ.out GZ.out (by rw [HL.out]; exact decide_eq_false (by omega)))
            go_wp2_with (go_at_call 57; ((with_reducible refine ch.mono ?_); rintro e w' ⟨rfl, rfl⟩))
            go_ret
            exact ⟨by rw [HE.out]; (first | done | rfl), rfl⟩
          · have v1' : 1 ≤ v := by omega
            clear v1
            by_cases v2 : n < v
            · have HE := Lib.hid (okF_no HZ.out GZ.out (by rw [HL.out]; exact decide_eq_false (by omega)))
              go_wp2_with (go_at_call 57; ((with_reducible refine ch.mono ?_); rintro e w' ⟨rfl, rfl⟩))
              go_ret
              exact ⟨by rw [HE.out]; (first | done | rfl), rfl⟩
            · have v2' : v ≤ n := by omega
              have HE := Lib.hid (show (c.take (j + 1)).all (okL n) = true by rw [all_take GZ.out, G.out, HL.out, decide_eq_true ⟨v1', v2'⟩]; rfl)
              clear v2
              go_wp2_with (go_at_call 57; ((with_reducible refine ch.mono ?_); rintro e w' ⟨rfl, rfl⟩))
              go_round
              case rel => exact ⟨j + 1, by omega, by go_num, HE.out⟩
              case measure => simp [intOf]; omega
        · obtain rfl : j = c.length := by omega
          have HE := Lib.hid (show okF n (f.take (k + 1)) = true by rw [okF_take HZ.out, H.out]; have := G.out; rw [List.take_length] at this; rw [this]; rfl)
          clear G
          go_wp2_with fail
          go_round
          case rel => exact ⟨k + 1, by omega, by go_num, HE.out⟩
          case measure => simp [intOf]; omega
    · obtain rfl : k = f.length := by omega
      have HE := Lib.hid (show okF n f = true by have := H.out; rw [List.take_length] at this; exact this)
      clear H
      go_wp2_with fail
      go_ret
      exact ⟨by rw [HE.out]; (first | done | rfl), rfl⟩
set_option maxHeartbeats 1600000 in
theorem rmay_any (n : Int) (A : Option Addr) (f : List (List Int)) (fcap : Nat) (w : World) (hn : Wf n) (hf : FormAt w A f) (hl : f.length ≤ 9223372036854775807) :
    Calls Tryz.prog 14 #[.int .i64 n, .slice A f.length fcap] w fun e w' => e = .returned (.bool (mayM n f)) ∧ w = w' := by
  have HF := Lib.hid hf
  clear hf
  by_cases h0 : n < 0
  · have HE := Lib.hid (may_out (f := f) (n := n) (by omega))
    go_enter Tryz.func14, Tryz.ntmps14
    go_wp2_with fail
    go_ret
    exact ⟨by rw [HE.out]; (first | done | rfl), rfl⟩
  by_cases h1 : 65536 < n
  · have h0' : 0 ≤ n := by omega
    have HE := Lib.hid (may_out (f := f) (n := n) (by omega))
    clear h0
    go_enter Tryz.func14, Tryz.ntmps14
    go_wp2_with fail
    go_ret
    exact ⟨by rw [HE.out]; (first | done | rfl), rfl⟩
  have h2 : 0 ≤ n := by omega
  have h3 : n ≤ 65536 := by omega
  clear h0 h1 hn
  rw [may_of h2 h3]
  go_enter Tryz.func14, Tryz.ntmps14
  go_wp2_with fail
  go_loop [5] (fun i => ∃ k : Nat, k ≤ f.length ∧ i = .int .i64 k ∧ Hid (okF n (f.take k) = true)) (fun i => f.length - (intOf i).toNat)
  case atStart => exact ⟨0, by omega, rfl, by simp [Hid, okF]⟩
  case round =>
    obtain ⟨k, hk, rfl, H⟩ := hrel
    by_cases hlt : k < f.length
    · obtain ⟨c, hz⟩ : ∃ c, f[k]? = some c := ⟨_, List.getElem?_eq_getElem hlt⟩
      obtain ⟨a, C, ccap, rfl, hcell, hcs, hcl⟩ := HF.out.get k c hz
      have HS := Lib.hid hcs
      have HW := Lib.hid (HF.out.wf c (List.mem_of_getElem? hz))
      have HZ := Lib.hid hz
      clear hcs hz
      go_wp2_with fail
      go_loop [6] (fun i => ∃ j : Nat, j ≤ c.length ∧ i = .int .i64 j ∧ Hid ((c.take j).all (okL n) = true)) (fun i => c.length - (intOf i).toNat)
      case atStart => exact ⟨0, by omega, rfl, by simp [Hid]⟩
      case round =>
        obtain ⟨j, hj, rfl, G⟩ := hrel
        by_cases hjl : j < c.length
        · obtain ⟨l, hz⟩ : ∃ l, c[j]? = some l := ⟨_, List.getElem?_eq_getElem hjl⟩
          obtain ⟨aC, rfl, hcc⟩ := HS.out.get j l hz
          have hwl := HW.out l (List.mem_of_getElem? hz)
          have HL := Lib.hid (okL_ref h2 h3 hwl)
          have GZ := Lib.hid hz
          clear hz hwl
          by_cases l0 : l = 0
          · have HE := Lib.hid (okF_no HZ.out GZ.out (by have := HL.out; cases hh : okL n l <;> simp_all))
            subst l0
            go_wp2_with fail
            go_ret
            exact ⟨by rw [HE.out]; (first | done | rfl), rfl⟩
          · have l0' : (l == 0) = false := by simpa using l0
            by_cases v1 : n < l
            · have HE := Lib.hid (okF_no HZ.out GZ.out (by have := HL.out; cases hh : okL n l <;> simp_all))
              clear l0
              go_wp2_with fail
              go_ret
              exact ⟨by rw [HE.out]; (first | done | rfl), rfl⟩
            · have v1' : l ≤ n := by omega
              by_cases v2 : l < -n
              · have HE := Lib.hid (okF_no HZ.out GZ.out (by have := HL.out; cases hh : okL n l <;> simp_all))
                clear l0 v1
                go_wp2_with fail
                go_ret
                exact ⟨by rw [HE.out]; (first | done | rfl), rfl⟩
              · have v2' : -n ≤ l := by omega
                have HE := Lib.hid (show (c.take (j + 1)).all (okL n) = true by rw [all_take GZ.out, G.out, HL.out.2 ⟨l0, v1, v2⟩]; rfl)
                clear v2 v1 l0
                go_wp2_with fail
                go_round
                case rel => exact ⟨j + 1, by omega, by go_num, HE.out⟩
                case measure => simp [intOf]; omega
        · obtain rfl : j = c.length := by omega
          have HE := Lib.hid (show okF n (f.take (k + 1)) = true by rw [okF_take HZ.out, H.out]; have := G.out; rw [List.take_length] at this; rw [this]; rfl)
          clear G
          go_wp2_with fail
          go_round
          case rel => exact ⟨k + 1, by omega, by go_num, HE.out⟩
          case measure => simp [intOf]; omega
    · obtain rfl : k = f.length := by omega
      have HE := Lib.hid (show okF n f = true by have := H.out; rw [List.take_length] at this; exact this)
      clear H
      go_wp2_with fail
      go_ret
      exact ⟨by rw [HE.out]; (first | done | rfl), rfl⟩
/-! ### The law's own -/
theorem take_ne {a b : List Int} {k : Nat} {x y : Int} (hx : a[k]? = some x) (hy : b[k]? = some y) (h : x ≠ y) : decide (a = b) = false := by
  refine decide_eq_false fun e => ?_
  subst e; rw [hx] at hy; injection hy with hy; exact h hy
theorem take_eq {a b : List Int} (hl : a.length = b.length) {k : Nat} (hk : k = a.length) (h : a.take k = b.take k) : decide (a = b) = true := by
  refine decide_eq_true ?_
  subst hk
  rwa [List.take_length, List.take_of_length_le (by omega)] at h
theorem take_more {a b : List Int} {k : Nat} {x : Int} (hx : a[k]? = some x) (hy : b[k]? = some x) (h : a.take k = b.take k) : a.take (k + 1) = b.take (k + 1) := by
  have ha := (List.getElem?_eq_some_iff.1 hx)
  have hb := (List.getElem?_eq_some_iff.1 hy)
  obtain ⟨ha, ha'⟩ := ha
  obtain ⟨hb, hb'⟩ := hb
  rw [List.take_succ_eq_append_getElem ha, List.take_succ_eq_append_getElem hb, h, ha', hb']
def SmallPost (w : World) (e : Ending) (w' : World) : Prop := ∃ b : Bool, e = .returned (.bool b) ∧ w = w'
set_option maxHeartbeats 1600000 in
theorem small_any (A : Option Addr) (f : List (List Int)) (fcap : Nat) (most : Int) (w : World) (hf : FormAt w A f) (hl : f.length ≤ 9223372036854775807) :
    Calls Tryz.prog 12 #[.slice A f.length fcap, .int .i64 most] w (SmallPost w) := by
  have HF := Lib.hid hf
  clear hf
  go_enter Tryz.func12, Tryz.ntmps12
  go_wp2_with fail
  go_loop [5, 6] (fun n i => ∃ (k : Nat) (s : Int), k ≤ f.length ∧ i = .int .i64 k ∧ n = .int .i64 s) (fun _ i => f.length - (intOf i).toNat)
  case atStart => exact ⟨0, 0, by omega, rfl, rfl⟩
  case round =>
    obtain ⟨k, s, hk, rfl, rfl⟩ := hrel
    by_cases hlt : k < f.length
    · obtain ⟨c, hz⟩ : ∃ c, f[k]? = some c := ⟨_, List.getElem?_eq_getElem hlt⟩
      obtain ⟨a, C, ccap, rfl, hcell, hcs, hcl⟩ := HF.out.get k c hz
      clear hcs hz
      go_wp2_with fail
      go_round
      case rel => exact ⟨k + 1, _, by omega, by go_num, rfl⟩
      case measure => simp [intOf]; omega
    · obtain rfl : k = f.length := by omega
      go_wp2_with fail
      go_ret
      exact ⟨_, rfl, rfl⟩
end Go.Proofs.YtcebpbjpbnfacaaGreat

/-
  literals and Normal of package clause: what they answer at every clause.
-/
namespace Go.Proofs.YtcebpbjpbnfacaaGreat
open Go.ChangeShapes Go.WideShapes Go.ChangeAt Go.RowKit Go.Sort Go.Proofs
set_option linter.unusedVariables false

abbrev ints (l : List Int) : List Value := l.map (Value.int .i64)
theorem infoInt : (Tryz.prog.info? 3).map (fun i => (i.zero, i.size, i.bytes)) = some (some (.int .i64 0), 1, 8) := by kernel_rfl
theorem lt_of_heap {w : World} {g : Nat} {o : Obj} (h : w.heap[g]? = some o) : g < w.heap.size := (Array.getElem?_eq_some_iff.1 h).1
theorem new_heap (w : World) (o : Obj) : (w.alloc o).heap[w.heap.size]? = some o := by
  show (w.heap.push o)[w.heap.size]? = _
  simp
/-- What a slice of the call's own reads as. -/
theorem seq_of_own {α : Type} {v : α → Value} {w : World} {base : Nat} {e : TypeId} {A : Option Addr} {n cap : Nat} {xs : List α} (h : w.ownsRow base e 1 (.slice A n cap) n (xs.map v)) (m : Nat) : SeqAt v w A (xs.take m) := by
  rcases h.2 with ⟨h0, hn0⟩ | ⟨g, c, cur, h0, _, hg, _⟩
  · injection h0 with h0; subst h0
    have : xs = [] := List.eq_nil_of_length_eq_zero (by have := h.1; simp at this; omega)
    subst this
    exact ⟨fun i z hz => by simp at hz⟩
  · injection h0 with h0 h1 h2; subst h0; subst h2
    refine ⟨fun i z hz => ⟨_, rfl, ?_⟩⟩
    have hi := (List.getElem?_eq_some_iff.1 hz).1
    have hn : xs.length = n := by have := h.1; simpa using this
    rw [List.length_take] at hi
    rw [List.getElem?_take_of_lt (by omega)] at hz
    have hc := World.ownsRow.cellAt h i (by omega)
    rw [show (⟨g, 0, none⟩ : Addr).add i = ⟨g, i, none⟩ by unfold Addr.add; split <;> simp_all, hc, List.getElem?_map, hz]
    rfl
theorem seq_own {α : Type} {v : α → Value} {w : World} {base : Nat} {e : TypeId} {A : Option Addr} {n cap : Nat} {xs : List α} (h : w.ownsRow base e 1 (.slice A n cap) n (xs.map v)) : SeqAt v w A xs := by
  have := seq_of_own h xs.length; rwa [List.take_length] at this
theorem own_cap {w : World} {base : Nat} {e : TypeId} {A : Option Addr} {n cap : Nat} {xs : List Value} (h : w.ownsRow base e 1 (.slice A n cap) n xs) : n ≤ cap ∧ cap ≤ 9223372036854775807 := by
  rcases h.2 with ⟨h0, h1⟩ | ⟨g, c, cur, h0, _, hg, h1, h2, _⟩
  · subst h1; injection h0 with h0 h1 h2; omega
  · injection h0 with h0 h3 h2; subst h2; unfold maxLen at h2; exact ⟨h1, by omega⟩
/-- A row of the call's own that grows. -/
structure LRel (w wr : World) (e : TypeId) (v : Value) (l : List Value) : Prop where
  own : wr.ownsRow w.heap.size e 1 v l.length l
  below : Below w.heap.size w wr
theorem LRel.more {w wr w' : World} {e : TypeId} {v : Value} {l : List Value} {x : Value} {g cap : Nat} {o : Obj} (h : LRel w wr e v l) (ho : w'.ownsRow w.heap.size e 1 (.slice (some ⟨g, 0, none⟩) (l.length + 1) cap) (l.length + 1) (l ++ [x])) (hg : (wr.alloc o).grownBy w' v.ownBlock) : LRel w w' e (.slice (some ⟨g, 0, none⟩) (l.length + 1) cap) (l ++ [x]) := by
  refine ⟨by rw [List.length_append]; exact ho, (h.below.alloc h.below.size o).grown hg (by have := h.below.size; simp; omega) (fun k hk => ?_)⟩
  rcases h.own.2 with ⟨h0, _⟩ | ⟨g', c, cur, h0, hb, _⟩
  · subst h0; simp [Value.ownBlock] at hk
  · subst h0; simp [Value.ownBlock] at hk; omega
theorem LRel.nil (w : World) (e : TypeId) : LRel w w e (.slice none 0 0) [] := ⟨⟨rfl, .inl ⟨rfl, rfl⟩⟩, Below.refl _ _⟩
theorem filter_yes {c : List Int} {k : Nat} {x : Int} (h : c[k]? = some x) (hl : lit x = true) : (c.take (k + 1)).filter lit = (c.take k).filter lit ++ [x] := by
  have hk := List.getElem?_eq_some_iff.1 h
  obtain ⟨hk, hk'⟩ := hk
  rw [List.take_succ_eq_append_getElem hk, List.filter_append, hk']; simp [hl]
theorem filter_no {c : List Int} {k : Nat} {x : Int} (h : c[k]? = some x) (hl : lit x = false) : (c.take (k + 1)).filter lit = (c.take k).filter lit := by
  have hk := List.getElem?_eq_some_iff.1 h
  obtain ⟨hk, hk'⟩ := hk
  rw [List.take_succ_eq_append_getElem hk, List.filter_append, hk']; simp [hl]
theorem filter_le (c : List Int) (k : Nat) : ((c.take k).filter lit).length ≤ k := Nat.le_trans (List.length_filter_le _ _) (by simp; omega)
def LitPost (c : List Int) (w : World) (e : Ending) (w' : World) : Prop := ∃ A cap, e = .returned (.slice A (c.filter lit).length cap) ∧ LRel w w' 3 (.slice A (c.filter lit).length cap) (ints (c.filter lit))
set_option maxHeartbeats 1600000 in
theorem literals_any (A : Option Addr) (c : List Int) (cap : Nat) (w : World) (hc : SeqAt (Value.int .i64) w A c) (hw : ∀ l ∈ c, Wf l) (hn : c.length ≤ 100000) :
    Calls Tryz.prog 107 #[.slice A c.length cap] w (LitPost c w) := by
  have HC := Lib.hid hc
  have HW := Lib.hid hw
  clear hc hw
  obtain ⟨i0, hi, hz0, hz1, hz2⟩ := info_parts infoInt
  have HI := Lib.hid (show _ ∧ _ ∧ _ ∧ _ from ⟨hi, hz0, hz1, hz2⟩)
  clear hi hz0 hz1 hz2
  go_enter Tryz.func107, Tryz.ntmps107
  go_wp2_with fail
  go_loopw [3, 8] (fun v i wr => ∃ (k : Nat) (B : Option Addr) (bcap : Nat), k ≤ c.length ∧ i = .int .i64 k ∧ v = .slice B ((c.take k).filter lit).length bcap ∧ Hid (LRel w wr 3 (.slice B ((c.take k).filter lit).length bcap) (ints ((c.take k).filter lit)))) (fun _ i _ => c.length - (intOf i).toNat)
  case atStart => exact ⟨0, none, 0, by omega, rfl, rfl, LRel.nil w _⟩
  case round =>
    obtain ⟨k, B, bcap, hk, rfl, rfl, R⟩ := hrel
    by_cases hlt : k < c.length
    · obtain ⟨x, hz⟩ : ∃ x, c[k]? = some x := ⟨_, List.getElem?_eq_getElem hlt⟩
      obtain ⟨a, rfl, hcell⟩ := (HC.out.keep R.out.below).get k x hz
      have cn := number_any x wr (HW.out x (List.mem_of_getElem? hz))
      have HS : Hid (w.heap.size ≤ wr.heap.size) := R.out.below.size
      have hle := filter_le c k
      cases hl : lit x with
      | true =>
        have HE := Lib.hid (filter_yes hz hl)
        have h1 : 1 ≤ numb x := by unfold lit at hl; exact of_decide_eq_true hl
        clear hz hl
        generalize numb x = nx at *
        generalize (c.take k).filter lit = l at *
        have HO : Hid (wr.ownsRow w.heap.size 3 1 (.slice B l.length bcap) l.length (ints l)) := by have := R.out.own; rw [List.length_map] at this; exact this
        go_wp2_with (first
          | (go_at_call 57; ((with_reducible refine cn.mono ?_); rintro e w' ⟨rfl, rfl⟩))
          | (at_builtin; refine wpList_append_lies _ rfl _ _ _ rfl w.heap.size 3 i0 _ 1 8 Tryz.underlying37 HI.out.1 HI.out.2.1 HI.out.2.2.1 HI.out.2.2.2 rfl (by omega) (.slice B l.length bcap) l.length (ints l) rfl (HO.out.alloc _) ⟨wr.heap.size, 0, none⟩ 1 1 [.int .i64 x] rfl rfl (World.news_of_block (cs := #[.int .i64 x]) (t := 3) (fr := (0, 0)) (new_heap wr _)) (by simp [Value.oneCell']) (by omega) (by unfold maxLen; omega) (by omega) (by have := HS.out; simp; omega) (wr.heap.size + 1) (by simp) ?_; intro g1 c1 wp hown1 hg1 hat1 hlt1; have HO1 := Lib.hid hown1; have HG1 := Lib.hid hg1; clear hown1 hg1 hat1 hlt1))
        go_roundw
        case rel => exact ⟨k + 1, some ⟨g1, 0, none⟩, c1, by omega, by go_num, by rw [HE.out, List.length_append]; rfl, by
          rw [HE.out]
          have hx := R.out.more (x := .int .i64 x) (g := g1) (cap := c1) (by rw [List.length_map]; exact HO1.out) HG1.out
          simp only [List.length_map, List.length_append, List.map_append] at hx ⊢
          exact hx⟩
        case measure => simp [intOf]; omega
      | false =>
        have HE := Lib.hid (filter_no hz hl)
        have h1 : numb x < 1 := by unfold lit at hl; have := of_decide_eq_false hl; omega
        clear hz hl
        generalize numb x = nx at *
        go_wp2_with (go_at_call 57; ((with_reducible refine cn.mono ?_); rintro e w' ⟨rfl, rfl⟩))
        go_roundw
        case rel => exact ⟨k + 1, B, bcap, by omega, by go_num, by rw [HE.out], by rw [HE.out]; exact R.out⟩
        case measure => simp [intOf]; omega
    · obtain rfl : k = c.length := by omega
      have HE := Lib.hid (show c.take c.length = c from List.take_length)
      go_wp2_with fail
      go_ret
      exact ⟨B, bcap, by rw [HE.out]; (first | done | rfl), by have := R.out; rw [HE.out] at this; exact this⟩
end Go.Proofs.YtcebpbjpbnfacaaGreat

/-
  DERIVED: THE SHELF's CONTRACTS AT THIS DUMP, IN PLAIN WORDS (tools/lay-plain.mjs out of 'TryzLib.lean', which tools/lay-shelf.mjs wrote): THE SAME DECLARATIONS UNDER THE SAME NAMES: 'import', 'namespace', 'open', 'def', 'theorem' AND NOTHING ELSE: no command of the shelf's: FOR A HAND-IN. Each laying: the table of numbers ('.._ren') and one theorem, a field a fact of the dump's own or the kernel's comparison; each contract: ONE APPLICATION.
-/
namespace Go.Proofs
open Go.Shelf
def Tryz.lays122_ren : Go.Shelf.Ren := ⟨fun | 122 => 139 | 215 => 189 | n => n, fun | 3 => 3 | 4 => 4 | n => n, fun | n => n⟩
theorem Tryz.lays122 : Go.Proofs.Lays.n122 Tryz.prog Tryz.lays122_ren := {
  mixed := by kernel_rfl
  f122 := Tryz.func139.trans (congrArg some (by kernel_rfl))
  f215 := Tryz.func189.trans (congrArg some (by kernel_rfl))
  t3 := Tryz.underlying3
  a3 := Tryz.isAgg3
  z3 := Tryz.sizeOf3
  v3 := Tryz.zeroValue3
  t4 := Tryz.underlying4
  a4 := Tryz.isAgg4
  z4 := Tryz.sizeOf4
  v4 := Tryz.zeroValue4 }
open Go.RowKit in
/-- cmp.Compare at int: "Compare returns -1 if x is less than y, 0 if x equals y, +1 if x is greater than y.": IT RETURNS 'Lib.compareInt x y'; the world is as it was. (LAID: no walk: one application.) -/
theorem Tryz.cmp_Compare_int (x y : Int) (w : World) :
    Calls Tryz.prog 139 #[.int .i64 x, .int .i64 y] w fun e w' => e = .returned (.int .i64 (Lib.compareInt x y)) ∧ w' = w := Any.cmp_Compare_int Tryz.lays122 x y w
def Tryz.laysNm220_ren : Go.Shelf.Ren := ⟨fun | 20 => 110 | n => n, fun | 22 => 37 | 3 => 3 | 4 => 4 | 0 => 0 | n => n, fun | n => n⟩
theorem Tryz.laysNm220 : Go.Proofs.Lays2.n20 Tryz.prog Tryz.laysNm220_ren := {
  mixed := by kernel_rfl
  f20 := Tryz.func110.trans (congrArg some (by kernel_rfl))
  t0 := Tryz.underlying0
  a0 := Tryz.isAgg0
  z0 := Tryz.sizeOf0
  v0 := Tryz.zeroValue0
  t3 := Tryz.underlying3
  a3 := Tryz.isAgg3
  z3 := Tryz.sizeOf3
  v3 := Tryz.zeroValue3
  t4 := Tryz.underlying4
  a4 := Tryz.isAgg4
  z4 := Tryz.sizeOf4
  v4 := Tryz.zeroValue4
  t22 := Tryz.underlying37
  a22 := Tryz.isAgg37
  z22 := Tryz.sizeOf37
  v22 := Tryz.zeroValue37
  i3 := by kernel_rfl }
open Go.RowKit Go.Lib Go.Sort in
/-- slices.Compact at []int: "Compact replaces consecutive runs of equal elements with a single copy. This is like the uniq command found on Unix. Compact modifies the contents of the slice s and returns the modified slice, which may have a smaller length. Compact zeroes the elements between the new length and the original length. The result preserves the nilness of s.": IT RETURNS THE SLICE CUT TO 'Lib.compact zs'; ITS CELLS HOLD 'Lib.compact zs', THEN ZERO VALUES up to the old length; all else is as it was, but for the count of draws. IN THE WORDS OF slices.Sort's CONTRACT ('Holds', 'putRow'): so the everyday 'slices.Sort(xs); xs = slices.Compact(xs)' goes from the one contract to the other. It asks 'zs.length ≤ cap' (every slice's: the reslicing 's[:k]' looks at it). Length 0, nil: '.._empty'. (LAID: no walk: one application.) -/
theorem Tryz.slices_Compact_int (blk off cap : Nat) (zs : List Int) (w : World) (hH : Holds (Value.int .i64) w blk off zs.toArray) (hsz : zs.length ≤ 9223372036854775807) (hcap : zs.length ≤ cap) :
    Calls Tryz.prog 110 #[.slice (some ⟨blk, off, none⟩) zs.length cap] w fun e w' => e = .returned (.slice (some ⟨blk, off, none⟩) (Lib.compact zs).length cap) ∧ ∃ q, w' = putRow (Value.int .i64) (Sort.ahead w q) blk off (Lib.compact zs ++ List.replicate (zs.length - (Lib.compact zs).length) 0).toArray := Any.slices_Compact_int Tryz.laysNm220 blk off cap zs w hH hsz hcap
open Go.RowKit Go.Lib Go.Sort in
/-- The same at a slice of length 0, a nil one too: it comes back as it is. (LAID: no walk: one application.) -/
theorem Tryz.slices_Compact_int_empty (a : Option Addr) (cap : Nat) (w : World) :
    Calls Tryz.prog 110 #[.slice a 0 cap] w fun e w' => e = .returned (.slice a 0 cap) ∧ w' = w := Any.slices_Compact_int_empty Tryz.laysNm220 a cap w
def Tryz.laysSlF06_f108_ren : Go.Shelf.Ren := ⟨fun | 6 => 108 | 15 => 116 | 14 => 137 | 28 => 155 | 29 => 156 | 20 => 181 | 21 => 182 | 22 => 183 | 23 => 184 | 24 => 185 | 25 => 186 | 26 => 187 | 27 => 188 | 46 => 212 | 47 => 191 | 48 => 192 | 49 => 213 | 50 => 214 | 57 => 225 | n => n, fun | 22 => 37 | 24 => 3 | 25 => 74 | 3 => 3 | 39 => 32 | 0 => 0 | 53 => 36 | 55 => 159 | 4 => 4 | 46 => 228 | 45 => 227 | 50 => 83 | 5 => 5 | 9 => 9 | 66 => 259 | 70 => 263 | 76 => 280 | 77 => 281 | n => n, fun | n => n⟩
theorem Tryz.laysSlF06_f108 : Go.Proofs.SlLaysF0.n6 Tryz.prog Tryz.laysSlF06_f108_ren := {
  mixed := by kernel_rfl
  f6 := ⟨Tryz.f108.name, by decide, Tryz.func108.trans (congrArg some (by kernel_rfl))⟩
  f14 := ⟨Tryz.f137.name, by decide, Tryz.func137.trans (congrArg some (by kernel_rfl))⟩
  f15 := Tryz.func116.trans (congrArg some (by kernel_rfl))
  f20 := ⟨Tryz.f181.name, by decide, Tryz.func181.trans (congrArg some (by kernel_rfl))⟩
  f21 := ⟨Tryz.f182.name, by decide, Tryz.func182.trans (congrArg some (by kernel_rfl))⟩
  f22 := ⟨Tryz.f183.name, by decide, Tryz.func183.trans (congrArg some (by kernel_rfl))⟩
  f23 := ⟨Tryz.f184.name, by decide, Tryz.func184.trans (congrArg some (by kernel_rfl))⟩
  f24 := ⟨Tryz.f185.name, by decide, Tryz.func185.trans (congrArg some (by kernel_rfl))⟩
  f25 := ⟨Tryz.f186.name, by decide, Tryz.func186.trans (congrArg some (by kernel_rfl))⟩
  f26 := ⟨Tryz.f187.name, by decide, Tryz.func187.trans (congrArg some (by kernel_rfl))⟩
  f27 := ⟨Tryz.f188.name, by decide, Tryz.func188.trans (congrArg some (by kernel_rfl))⟩
  f28 := Tryz.func155.trans (congrArg some (by kernel_rfl))
  f29 := Tryz.func156.trans (congrArg some (by kernel_rfl))
  f46 := ⟨Tryz.f212.name, by decide, Tryz.func212.trans (congrArg some (by kernel_rfl))⟩
  f47 := Tryz.func191.trans (congrArg some (by kernel_rfl))
  f48 := Tryz.func192.trans (congrArg some (by kernel_rfl))
  f49 := ⟨Tryz.f213.name, by decide, Tryz.func213.trans (congrArg some (by kernel_rfl))⟩
  f50 := ⟨Tryz.f214.name, by decide, Tryz.func214.trans (congrArg some (by kernel_rfl))⟩
  f57 := ⟨Tryz.f225.name, by decide, Tryz.func225.trans (congrArg some (by kernel_rfl))⟩
  t0 := Tryz.underlying0
  a0 := Tryz.isAgg0
  z0 := Tryz.sizeOf0
  v0 := Tryz.zeroValue0
  t3 := Tryz.underlying3
  a3 := Tryz.isAgg3
  z3 := Tryz.sizeOf3
  v3 := Tryz.zeroValue3
  t4 := Tryz.underlying4
  a4 := Tryz.isAgg4
  z4 := Tryz.sizeOf4
  v4 := Tryz.zeroValue4
  t5 := Tryz.underlying5
  a5 := Tryz.isAgg5
  z5 := Tryz.sizeOf5
  v5 := Tryz.zeroValue5
  t9 := Tryz.underlying9
  a9 := Tryz.isAgg9
  z9 := Tryz.sizeOf9
  v9 := Tryz.zeroValue9
  t22 := Tryz.underlying37
  a22 := Tryz.isAgg37
  z22 := Tryz.sizeOf37
  v22 := Tryz.zeroValue37
  t25 := Tryz.underlying74
  a25 := Tryz.isAgg74
  z25 := Tryz.sizeOf74
  v25 := Tryz.zeroValue74
  t39 := Tryz.underlying32
  a39 := Tryz.isAgg32
  z39 := Tryz.sizeOf32
  v39 := Tryz.zeroValue32
  t45 := Tryz.underlying227
  a45 := Tryz.isAgg227
  z45 := Tryz.sizeOf227
  v45 := Tryz.zeroValue227
  t46 := Tryz.underlying228
  a46 := Tryz.isAgg228
  z46 := Tryz.sizeOf228
  v46 := Tryz.zeroValue228
  t50 := Tryz.underlying83
  a50 := Tryz.isAgg83
  z50 := Tryz.sizeOf83
  v50 := Tryz.zeroValue83
  t53 := Tryz.underlying36
  a53 := Tryz.isAgg36
  z53 := Tryz.sizeOf36
  v53 := Tryz.zeroValue36
  t55 := Tryz.underlying159
  a55 := Tryz.isAgg159
  z55 := Tryz.sizeOf159
  v55 := Tryz.zeroValue159
  t66 := Tryz.underlying259
  a66 := Tryz.isAgg259
  z66 := Tryz.sizeOf259
  v66 := Tryz.zeroValue259
  t70 := Tryz.underlying263
  a70 := Tryz.isAgg263
  z70 := Tryz.sizeOf263
  v70 := Tryz.zeroValue263
  t76 := Tryz.underlying280
  a76 := Tryz.isAgg280
  z76 := Tryz.sizeOf280
  v76 := Tryz.zeroValue280
  t77 := Tryz.underlying281
  a77 := Tryz.isAgg281
  z77 := Tryz.sizeOf281
  v77 := Tryz.zeroValue281 }
open Go.RowKit Go.Lib Go.Sort in
/-- **slices.SortFunc AT NO ELEMENT, A nil SLICE TOO: nothing turns.** (LAID AT THE INSTANCE 'slices.SortFunc[[]int,int]': no walk: one application.) -/
theorem Tryz.slices_SortFunc_none {α : Type} [Inhabited α] (p : Option Addr) (cap : Nat) (fv : Value) (w : World) :
    Calls Tryz.prog 108 #[.slice p 0 cap, fv] w fun e w' => e = .returned (.tuple #[]) ∧ w' = w := AnyF.slices_SortFunc_none Tryz.laysSlF06_f108 p cap fv w
def Tryz.laysSlF6_f108_ren : Go.Shelf.Ren := ⟨fun | 6 => 108 | 15 => 116 | 14 => 137 | 28 => 155 | 29 => 156 | 20 => 181 | 21 => 182 | 22 => 183 | 23 => 184 | 24 => 185 | 25 => 186 | 26 => 187 | 27 => 188 | 46 => 212 | 47 => 191 | 48 => 192 | 49 => 213 | 50 => 214 | 57 => 225 | n => n, fun | 22 => 37 | 24 => 3 | 25 => 74 | 3 => 3 | 39 => 32 | 0 => 0 | 53 => 36 | 55 => 159 | 4 => 4 | 46 => 228 | 45 => 227 | 50 => 83 | 5 => 5 | 9 => 9 | 66 => 259 | 70 => 263 | 76 => 280 | 77 => 281 | n => n, fun | n => n⟩
theorem Tryz.laysSlF6_f108 : Go.Proofs.SlLaysF.n6 Tryz.prog Tryz.laysSlF6_f108_ren := {
  mixed := by kernel_rfl
  f6 := ⟨Tryz.f108.name, by decide, Tryz.func108.trans (congrArg some (by kernel_rfl))⟩
  f14 := ⟨Tryz.f137.name, by decide, Tryz.func137.trans (congrArg some (by kernel_rfl))⟩
  f15 := Tryz.func116.trans (congrArg some (by kernel_rfl))
  f20 := ⟨Tryz.f181.name, by decide, Tryz.func181.trans (congrArg some (by kernel_rfl))⟩
  f21 := ⟨Tryz.f182.name, by decide, Tryz.func182.trans (congrArg some (by kernel_rfl))⟩
  f22 := ⟨Tryz.f183.name, by decide, Tryz.func183.trans (congrArg some (by kernel_rfl))⟩
  f23 := ⟨Tryz.f184.name, by decide, Tryz.func184.trans (congrArg some (by kernel_rfl))⟩
  f24 := ⟨Tryz.f185.name, by decide, Tryz.func185.trans (congrArg some (by kernel_rfl))⟩
  f25 := ⟨Tryz.f186.name, by decide, Tryz.func186.trans (congrArg some (by kernel_rfl))⟩
  f26 := ⟨Tryz.f187.name, by decide, Tryz.func187.trans (congrArg some (by kernel_rfl))⟩
  f27 := ⟨Tryz.f188.name, by decide, Tryz.func188.trans (congrArg some (by kernel_rfl))⟩
  f28 := Tryz.func155.trans (congrArg some (by kernel_rfl))
  f29 := Tryz.func156.trans (congrArg some (by kernel_rfl))
  f46 := ⟨Tryz.f212.name, by decide, Tryz.func212.trans (congrArg some (by kernel_rfl))⟩
  f47 := Tryz.func191.trans (congrArg some (by kernel_rfl))
  f48 := Tryz.func192.trans (congrArg some (by kernel_rfl))
  f49 := ⟨Tryz.f213.name, by decide, Tryz.func213.trans (congrArg some (by kernel_rfl))⟩
  f50 := ⟨Tryz.f214.name, by decide, Tryz.func214.trans (congrArg some (by kernel_rfl))⟩
  f57 := ⟨Tryz.f225.name, by decide, Tryz.func225.trans (congrArg some (by kernel_rfl))⟩
  t0 := Tryz.underlying0
  a0 := Tryz.isAgg0
  z0 := Tryz.sizeOf0
  v0 := Tryz.zeroValue0
  t3 := Tryz.underlying3
  a3 := Tryz.isAgg3
  z3 := Tryz.sizeOf3
  v3 := Tryz.zeroValue3
  t4 := Tryz.underlying4
  a4 := Tryz.isAgg4
  z4 := Tryz.sizeOf4
  v4 := Tryz.zeroValue4
  t5 := Tryz.underlying5
  a5 := Tryz.isAgg5
  z5 := Tryz.sizeOf5
  v5 := Tryz.zeroValue5
  t9 := Tryz.underlying9
  a9 := Tryz.isAgg9
  z9 := Tryz.sizeOf9
  v9 := Tryz.zeroValue9
  t22 := Tryz.underlying37
  a22 := Tryz.isAgg37
  z22 := Tryz.sizeOf37
  v22 := Tryz.zeroValue37
  a24 := Tryz.isAgg3
  z24 := Tryz.sizeOf3
  t25 := Tryz.underlying74
  a25 := Tryz.isAgg74
  z25 := Tryz.sizeOf74
  v25 := Tryz.zeroValue74
  t39 := Tryz.underlying32
  a39 := Tryz.isAgg32
  z39 := Tryz.sizeOf32
  v39 := Tryz.zeroValue32
  t45 := Tryz.underlying227
  a45 := Tryz.isAgg227
  z45 := Tryz.sizeOf227
  v45 := Tryz.zeroValue227
  t46 := Tryz.underlying228
  a46 := Tryz.isAgg228
  z46 := Tryz.sizeOf228
  v46 := Tryz.zeroValue228
  t50 := Tryz.underlying83
  a50 := Tryz.isAgg83
  z50 := Tryz.sizeOf83
  v50 := Tryz.zeroValue83
  t53 := Tryz.underlying36
  a53 := Tryz.isAgg36
  z53 := Tryz.sizeOf36
  v53 := Tryz.zeroValue36
  t55 := Tryz.underlying159
  a55 := Tryz.isAgg159
  z55 := Tryz.sizeOf159
  v55 := Tryz.zeroValue159
  t66 := Tryz.underlying259
  a66 := Tryz.isAgg259
  z66 := Tryz.sizeOf259
  v66 := Tryz.zeroValue259
  t70 := Tryz.underlying263
  a70 := Tryz.isAgg263
  z70 := Tryz.sizeOf263
  v70 := Tryz.zeroValue263
  t76 := Tryz.underlying280
  a76 := Tryz.isAgg280
  z76 := Tryz.sizeOf280
  v76 := Tryz.zeroValue280
  t77 := Tryz.underlying281
  a77 := Tryz.isAgg281
  z77 := Tryz.sizeOf281
  v77 := Tryz.zeroValue281 }
open Go.RowKit Go.Lib Go.Sort in
/-- **slices.SortFunc AT ONE CELL, UNDER A 'cmp' THAT PARTS WHATEVER TWO THAT ARE NOT ONE: THE ROW HOLDS core's 'mergeSort'.** (LAID AT THE INSTANCE 'slices.SortFunc[[]int,int]': no walk: one application.) -/
theorem Tryz.slices_SortFunc_total {α : Type} [Inhabited α] (enc : α → Value) (h1 : OneCell enc) (cf : α → α → Int) (hO : SWO (ltOf cf)) (g : Nat) (cb : Array Value) (blk off cap : Nat) (d : Array α) (w : World) (eg : ∀ args w, (callFunc g args).run Tryz.prog w = .ok (.enter g args) w) (hcmp : CmpLays1 Tryz.prog g cb enc cf blk off d.size w) (hH : Holds enc w blk off d) (hblk : blk < w.heap.size) (hsz : d.size < 4611686018427387904) (hT : ∀ x y, (ltOf cf) x y = false → (ltOf cf) y x = false → x = y) :
    Calls Tryz.prog 108 #[.slice (some ⟨blk, off, none⟩) d.size cap, .func (.func g) #[] cb] w fun e w' =>
      e = .returned (.tuple #[]) ∧ ∃ n os, w' = sortWorld enc w blk off n (d.toList.mergeSort fun x y => !(ltOf cf) y x).toArray os := Any.slices_SortFunc_total Tryz.laysSlF6_f108 enc h1 cf hO g cb blk off cap d w eg hcmp hH hblk hsz hT
end Go.Proofs
