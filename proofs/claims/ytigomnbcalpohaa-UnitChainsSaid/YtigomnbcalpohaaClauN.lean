/-
  literals and Normal of package clause: what they answer at every clause.
-/
import Derived.Test.YtigomnbcalpohaaClauC
import Derived.Laws.Rows
import Derived.Deep.AppendLies
namespace Go.Proofs.Ytigomnbcalpohaa
open Go.ChangeShapes Go.WideShapes Go.ChangeAt Go.RowKit Go.Sort Go.Proofs
set_option linter.unusedVariables false

abbrev ints (l : List Int) : List Value := l.map (Value.int .i64)
theorem infoInt : (Try.prog.info? 3).map (fun i => (i.zero, i.size, i.bytes)) = some (some (.int .i64 0), 1, 8) := by kernel_rfl
theorem lt_of_heap {w : World} {g : Nat} {o : Obj} (h : w.heap[g]? = some o) : g < w.heap.size := (Array.getElem?_eq_some_iff.1 h).1
theorem new_heap (w : World) (o : Obj) : (w.alloc o).heap[w.heap.size]? = some o := by
  show (w.heap.push o)[w.heap.size]? = _
  simp
/-- What a slice of the call's own reads as. -/
theorem seq_of_own {α : Type} {v : α → Value} {w : World} {base : Nat} {e : TypeId} {A : Option Addr} {n cap : Nat} {xs : List α} (h : w.ownsRow base e 1 (.slice A n cap) n (xs.map v)) (m : Nat) : SeqAt v w A (xs.take m) := by
  rcases h.2 with ⟨h0, hn0⟩ | ⟨g, c, cur, h0, _, hg, _⟩
  · injection h0 with h0; subst h0
    have : xs = [] := List.eq_nil_of_length_eq_zero (by have := h.1; simp at this; omega)
    subst this
    exact ⟨fun i z hz => by simp at hz⟩
  · injection h0 with h0 h1 h2; subst h0; subst h2
    refine ⟨fun i z hz => ⟨_, rfl, ?_⟩⟩
    have hi := (List.getElem?_eq_some_iff.1 hz).1
    have hn : xs.length = n := by have := h.1; simpa using this
    rw [List.length_take] at hi
    rw [List.getElem?_take_of_lt (by omega)] at hz
    have hc := World.ownsRow.cellAt h i (by omega)
    rw [show (⟨g, 0, none⟩ : Addr).add i = ⟨g, i, none⟩ by unfold Addr.add; split <;> simp_all, hc, List.getElem?_map, hz]
    rfl
theorem seq_own {α : Type} {v : α → Value} {w : World} {base : Nat} {e : TypeId} {A : Option Addr} {n cap : Nat} {xs : List α} (h : w.ownsRow base e 1 (.slice A n cap) n (xs.map v)) : SeqAt v w A xs := by
  have := seq_of_own h xs.length; rwa [List.take_length] at this
theorem own_cap {w : World} {base : Nat} {e : TypeId} {A : Option Addr} {n cap : Nat} {xs : List Value} (h : w.ownsRow base e 1 (.slice A n cap) n xs) : n ≤ cap ∧ cap ≤ 9223372036854775807 := by
  rcases h.2 with ⟨h0, h1⟩ | ⟨g, c, cur, h0, _, hg, h1, h2, _⟩
  · subst h1; injection h0 with h0 h1 h2; omega
  · injection h0 with h0 h3 h2; subst h2; unfold maxLen at h2; exact ⟨h1, by omega⟩
/-- A row of the call's own that grows. -/
structure LRel (w wr : World) (e : TypeId) (v : Value) (l : List Value) : Prop where
  own : wr.ownsRow w.heap.size e 1 v l.length l
  below : Below w.heap.size w wr
theorem LRel.more {w wr w' : World} {e : TypeId} {v : Value} {l : List Value} {x : Value} {g cap : Nat} {o : Obj} (h : LRel w wr e v l) (ho : w'.ownsRow w.heap.size e 1 (.slice (some ⟨g, 0, none⟩) (l.length + 1) cap) (l.length + 1) (l ++ [x])) (hg : (wr.alloc o).grownBy w' v.ownBlock) : LRel w w' e (.slice (some ⟨g, 0, none⟩) (l.length + 1) cap) (l ++ [x]) := by
  refine ⟨by rw [List.length_append]; exact ho, (h.below.alloc h.below.size o).grown hg (by have := h.below.size; simp; omega) (fun k hk => ?_)⟩
  rcases h.own.2 with ⟨h0, _⟩ | ⟨g', c, cur, h0, hb, _⟩
  · subst h0; simp [Value.ownBlock] at hk
  · subst h0; simp [Value.ownBlock] at hk; omega
theorem LRel.nil (w : World) (e : TypeId) : LRel w w e (.slice none 0 0) [] := ⟨⟨rfl, .inl ⟨rfl, rfl⟩⟩, Below.refl _ _⟩
theorem filter_yes {c : List Int} {k : Nat} {x : Int} (h : c[k]? = some x) (hl : lit x = true) : (c.take (k + 1)).filter lit = (c.take k).filter lit ++ [x] := by
  have hk := List.getElem?_eq_some_iff.1 h
  obtain ⟨hk, hk'⟩ := hk
  rw [List.take_succ_eq_append_getElem hk, List.filter_append, hk']; simp [hl]
theorem filter_no {c : List Int} {k : Nat} {x : Int} (h : c[k]? = some x) (hl : lit x = false) : (c.take (k + 1)).filter lit = (c.take k).filter lit := by
  have hk := List.getElem?_eq_some_iff.1 h
  obtain ⟨hk, hk'⟩ := hk
  rw [List.take_succ_eq_append_getElem hk, List.filter_append, hk']; simp [hl]
theorem filter_le (c : List Int) (k : Nat) : ((c.take k).filter lit).length ≤ k := Nat.le_trans (List.length_filter_le _ _) (by simp; omega)
def LitPost (c : List Int) (w : World) (e : Ending) (w' : World) : Prop := ∃ A cap, e = .returned (.slice A (c.filter lit).length cap) ∧ LRel w w' 3 (.slice A (c.filter lit).length cap) (ints (c.filter lit))
set_option maxHeartbeats 1600000 in
theorem literals_any (A : Option Addr) (c : List Int) (cap : Nat) (w : World) (hc : SeqAt (Value.int .i64) w A c) (hw : ∀ l ∈ c, Wf l) (hn : c.length ≤ 100000) :
    Calls Try.prog 32 #[.slice A c.length cap] w (LitPost c w) := by
  have HC := Lib.hid hc
  have HW := Lib.hid hw
  clear hc hw
  obtain ⟨i0, hi, hz0, hz1, hz2⟩ := info_parts infoInt
  have HI := Lib.hid (show _ ∧ _ ∧ _ ∧ _ from ⟨hi, hz0, hz1, hz2⟩)
  clear hi hz0 hz1 hz2
  go_enter Try.func32, Try.ntmps32
  go_wp2_with fail
  go_loopw [3, 8] (fun v i wr => ∃ (k : Nat) (B : Option Addr) (bcap : Nat), k ≤ c.length ∧ i = .int .i64 k ∧ v = .slice B ((c.take k).filter lit).length bcap ∧ Hid (LRel w wr 3 (.slice B ((c.take k).filter lit).length bcap) (ints ((c.take k).filter lit)))) (fun _ i _ => c.length - (intOf i).toNat)
  case atStart => exact ⟨0, none, 0, by omega, rfl, rfl, LRel.nil w _⟩
  case round =>
    obtain ⟨k, B, bcap, hk, rfl, rfl, R⟩ := hrel
    by_cases hlt : k < c.length
    · obtain ⟨x, hz⟩ : ∃ x, c[k]? = some x := ⟨_, List.getElem?_eq_getElem hlt⟩
      obtain ⟨a, rfl, hcell⟩ := (HC.out.keep R.out.below).get k x hz
      have cn := number_any x wr (HW.out x (List.mem_of_getElem? hz))
      have HS : Hid (w.heap.size ≤ wr.heap.size) := R.out.below.size
      have hle := filter_le c k
      cases hl : lit x with
      | true =>
        have HE := Lib.hid (filter_yes hz hl)
        have h1 : 1 ≤ numb x := by unfold lit at hl; exact of_decide_eq_true hl
        clear hz hl
        generalize numb x = nx at *
        generalize (c.take k).filter lit = l at *
        have HO : Hid (wr.ownsRow w.heap.size 3 1 (.slice B l.length bcap) l.length (ints l)) := by have := R.out.own; rw [List.length_map] at this; exact this
        go_wp2_with (first
          | (go_at_call 23; ((with_reducible refine cn.mono ?_); rintro e w' ⟨rfl, rfl⟩))
          | (at_builtin; refine wpList_append_lies _ rfl _ _ _ rfl w.heap.size 3 i0 _ 1 8 Try.underlying23 HI.out.1 HI.out.2.1 HI.out.2.2.1 HI.out.2.2.2 rfl (by omega) (.slice B l.length bcap) l.length (ints l) rfl (HO.out.alloc _) ⟨wr.heap.size, 0, none⟩ 1 1 [.int .i64 x] rfl rfl (World.news_of_block (cs := #[.int .i64 x]) (t := 3) (fr := (0, 0)) (new_heap wr _)) (by simp [Value.oneCell']) (by omega) (by unfold maxLen; omega) (by omega) (by have := HS.out; simp; omega) (wr.heap.size + 1) (by simp) ?_; intro g1 c1 wp hown1 hg1 hat1 hlt1; have HO1 := Lib.hid hown1; have HG1 := Lib.hid hg1; clear hown1 hg1 hat1 hlt1))
        go_roundw
        case rel => exact ⟨k + 1, some ⟨g1, 0, none⟩, c1, by omega, by go_num, by rw [HE.out, List.length_append]; rfl, by
          rw [HE.out]
          have hx := R.out.more (x := .int .i64 x) (g := g1) (cap := c1) (by rw [List.length_map]; exact HO1.out) HG1.out
          simp only [List.length_map, List.length_append, List.map_append] at hx ⊢
          exact hx⟩
        case measure => simp [intOf]; omega
      | false =>
        have HE := Lib.hid (filter_no hz hl)
        have h1 : numb x < 1 := by unfold lit at hl; have := of_decide_eq_false hl; omega
        clear hz hl
        generalize numb x = nx at *
        go_wp2_with (go_at_call 23; ((with_reducible refine cn.mono ?_); rintro e w' ⟨rfl, rfl⟩))
        go_roundw
        case rel => exact ⟨k + 1, B, bcap, by omega, by go_num, by rw [HE.out], by rw [HE.out]; exact R.out⟩
        case measure => simp [intOf]; omega
    · obtain rfl : k = c.length := by omega
      have HE := Lib.hid (show c.take c.length = c from List.take_length)
      go_wp2_with fail
      go_ret
      exact ⟨B, bcap, by rw [HE.out]; (first | done | rfl), by have := R.out; rw [HE.out] at this; exact this⟩
end Go.Proofs.Ytigomnbcalpohaa
