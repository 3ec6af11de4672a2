/-
  Parts of the proof, joined: ClauN, Lib, ClauS.
-/
import Derived.Deep.AppendLies
import Derived.Test.YtpmdnbdmocdngaaGreatMh02
import Derived.Laws.Rows
import Derived.Shelf.Small.Wraps
import Derived.Ground.Names2Prog
import Derived.Shelf.Slices.CompactI
import Derived.Ground.SlsfProg
import Derived.Shelf.SlSortCmp.NoneTotal
import Derived.Ground.NamesProg
import Derived.Test.YtpmdnbdmocdngaaGreatProg
import Derived.Sort.OwnSortedInts
import Derived.Lib.RowBridge

namespace Go.Proofs.YtpmdnbdmocdngaaGreat
open Go.ChangeShapes Go.WideShapes Go.ChangeAt Go.RowKit Go.Sort Go.Proofs
set_option linter.unusedVariables false

abbrev ints (l : List Int) : List Value := l.map (Value.int .i64)
theorem infoInt : (Tryz.prog.info? 3).map (fun i => (i.zero, i.size, i.bytes)) = some (some (.int .i64 0), 1, 8) := by kernel_rfl
theorem lt_of_heap {w : World} {g : Nat} {o : Obj} (h : w.heap[g]? = some o) : g < w.heap.size := (Array.getElem?_eq_some_iff.1 h).1
theorem new_heap (w : World) (o : Obj) : (w.alloc o).heap[w.heap.size]? = some o := by
  show (w.heap.push o)[w.heap.size]? = _
  simp
/-- What a slice of the call's own reads as. -/
theorem seq_of_own {α : Type} {v : α → Value} {w : World} {base : Nat} {e : TypeId} {A : Option Addr} {n cap : Nat} {xs : List α} (h : w.ownsRow base e 1 (.slice A n cap) n (xs.map v)) (m : Nat) : SeqAt v w A (xs.take m) := by
  rcases h.2 with ⟨h0, hn0⟩ | ⟨g, c, cur, h0, _, hg, _⟩
  · injection h0 with h0; subst h0
    have : xs = [] := List.eq_nil_of_length_eq_zero (by have := h.1; simp at this; omega)
    subst this
    exact ⟨fun i z hz => by simp at hz⟩
  · injection h0 with h0 h1 h2; subst h0; subst h2
    refine ⟨fun i z hz => ⟨_, rfl, ?_⟩⟩
    have hi := (List.getElem?_eq_some_iff.1 hz).1
    have hn : xs.length = n := by have := h.1; simpa using this
    rw [List.length_take] at hi
    rw [List.getElem?_take_of_lt (by omega)] at hz
    have hc := World.ownsRow.cellAt h i (by omega)
    rw [show (⟨g, 0, none⟩ : Addr).add i = ⟨g, i, none⟩ by unfold Addr.add; split <;> simp_all, hc, List.getElem?_map, hz]
    rfl
theorem seq_own {α : Type} {v : α → Value} {w : World} {base : Nat} {e : TypeId} {A : Option Addr} {n cap : Nat} {xs : List α} (h : w.ownsRow base e 1 (.slice A n cap) n (xs.map v)) : SeqAt v w A xs := by
  have := seq_of_own h xs.length; rwa [List.take_length] at this
/-- A row of the call's own that grows. -/
structure LRel (w wr : World) (e : TypeId) (v : Value) (l : List Value) : Prop where
  own : wr.ownsRow w.heap.size e 1 v l.length l
  below : Below w.heap.size w wr
theorem LRel.more {w wr w' : World} {e : TypeId} {v : Value} {l : List Value} {x : Value} {g cap : Nat} {o : Obj} (h : LRel w wr e v l) (ho : w'.ownsRow w.heap.size e 1 (.slice (some ⟨g, 0, none⟩) (l.length + 1) cap) (l.length + 1) (l ++ [x])) (hg : (wr.alloc o).grownBy w' v.ownBlock) : LRel w w' e (.slice (some ⟨g, 0, none⟩) (l.length + 1) cap) (l ++ [x]) := by
  refine ⟨by rw [List.length_append]; exact ho, (h.below.alloc h.below.size o).grown hg (by have := h.below.size; simp; omega) (fun k hk => ?_)⟩
  rcases h.own.2 with ⟨h0, _⟩ | ⟨g', c, cur, h0, hb, _⟩
  · subst h0; simp [Value.ownBlock] at hk
  · subst h0; simp [Value.ownBlock] at hk; omega
theorem LRel.nil (w : World) (e : TypeId) : LRel w w e (.slice none 0 0) [] := ⟨⟨rfl, .inl ⟨rfl, rfl⟩⟩, Below.refl _ _⟩
theorem filter_yes {c : List Int} {k : Nat} {x : Int} (h : c[k]? = some x) (hl : lit x = true) : (c.take (k + 1)).filter lit = (c.take k).filter lit ++ [x] := by
  have hk := List.getElem?_eq_some_iff.1 h
  obtain ⟨hk, hk'⟩ := hk
  rw [List.take_succ_eq_append_getElem hk, List.filter_append, hk']; simp [hl]
theorem filter_no {c : List Int} {k : Nat} {x : Int} (h : c[k]? = some x) (hl : lit x = false) : (c.take (k + 1)).filter lit = (c.take k).filter lit := by
  have hk := List.getElem?_eq_some_iff.1 h
  obtain ⟨hk, hk'⟩ := hk
  rw [List.take_succ_eq_append_getElem hk, List.filter_append, hk']; simp [hl]
theorem filter_le (c : List Int) (k : Nat) : ((c.take k).filter lit).length ≤ k := Nat.le_trans (List.length_filter_le _ _) (by simp; omega)
def LitPost (c : List Int) (w : World) (e : Ending) (w' : World) : Prop := ∃ A cap, e = .returned (.slice A (c.filter lit).length cap) ∧ LRel w w' 3 (.slice A (c.filter lit).length cap) (ints (c.filter lit))
set_option maxHeartbeats 1600000 in
theorem literals_any (A : Option Addr) (c : List Int) (cap : Nat) (w : World) (hc : SeqAt (Value.int .i64) w A c) (hw : ∀ l ∈ c, Wf l) (hn : c.length ≤ 100000) :
    Calls Tryz.prog 104 #[.slice A c.length cap] w (LitPost c w) := by
  have HC := Lib.hid hc
  have HW := Lib.hid hw
  clear hc hw
  obtain ⟨i0, hi, hz0, hz1, hz2⟩ := info_parts infoInt
  have HI := Lib.hid (show _ ∧ _ ∧ _ ∧ _ from ⟨hi, hz0, hz1, hz2⟩)
  clear hi hz0 hz1 hz2
  go_enter Tryz.func104, Tryz.ntmps104
  go_wp2_with fail
  go_loopw [3, 8] (fun v i wr => ∃ (k : Nat) (B : Option Addr) (bcap : Nat), k ≤ c.length ∧ i = .int .i64 k ∧ v = .slice B ((c.take k).filter lit).length bcap ∧ Hid (LRel w wr 3 (.slice B ((c.take k).filter lit).length bcap) (ints ((c.take k).filter lit)))) (fun _ i _ => c.length - (intOf i).toNat)
  case atStart => exact ⟨0, none, 0, by omega, rfl, rfl, LRel.nil w _⟩
  case round =>
    obtain ⟨k, B, bcap, hk, rfl, rfl, R⟩ := hrel
    by_cases hlt : k < c.length
    · obtain ⟨x, hz⟩ : ∃ x, c[k]? = some x := ⟨_, List.getElem?_eq_getElem hlt⟩
      obtain ⟨a, rfl, hcell⟩ := (HC.out.keep R.out.below).get k x hz
      have cn := number_any x wr (HW.out x (List.mem_of_getElem? hz))
      have HS : Hid (w.heap.size ≤ wr.heap.size) := R.out.below.size
      have hle := filter_le c k
      cases hl : lit x with
      | true =>
        have HE := Lib.hid (filter_yes hz hl)
        have h1 : 1 ≤ numb x := by unfold lit at hl; exact of_decide_eq_true hl
        clear hz hl
        generalize numb x = nx at *
        generalize (c.take k).filter lit = l at *
        have HO : Hid (wr.ownsRow w.heap.size 3 1 (.slice B l.length bcap) l.length (ints l)) := by have := R.out.own; rw [List.length_map] at this; exact this
        go_wp2_with (first
          | (go_at_call 54; ((with_reducible refine cn.mono ?_); rintro e w' ⟨rfl, rfl⟩))
          | (at_builtin; refine wpList_append_lies _ rfl _ _ _ rfl w.heap.size 3 i0 _ 1 8 Tryz.underlying36 HI.out.1 HI.out.2.1 HI.out.2.2.1 HI.out.2.2.2 rfl (by omega) (.slice B l.length bcap) l.length (ints l) rfl (HO.out.alloc _) ⟨wr.heap.size, 0, none⟩ 1 1 [.int .i64 x] rfl rfl (World.news_of_block (cs := #[.int .i64 x]) (t := 3) (fr := (0, 0)) (new_heap wr _)) (by simp [Value.oneCell']) (by omega) (by unfold maxLen; omega) (by omega) (by have := HS.out; simp; omega) (wr.heap.size + 1) (by simp) ?_; intro g1 c1 wp hown1 hg1 hat1 hlt1; have HO1 := Lib.hid hown1; have HG1 := Lib.hid hg1; clear hown1 hg1 hat1 hlt1))
        go_roundw
        case rel => exact ⟨k + 1, some ⟨g1, 0, none⟩, c1, by omega, by go_num, by rw [HE.out, List.length_append]; rfl, by
          rw [HE.out]
          have hx := R.out.more (x := .int .i64 x) (g := g1) (cap := c1) (by rw [List.length_map]; exact HO1.out) HG1.out
          simp only [List.length_map, List.length_append, List.map_append] at hx ⊢
          exact hx⟩
        case measure => simp [intOf]; omega
      | false =>
        have HE := Lib.hid (filter_no hz hl)
        have h1 : numb x < 1 := by unfold lit at hl; have := of_decide_eq_false hl; omega
        clear hz hl
        generalize numb x = nx at *
        go_wp2_with (go_at_call 54; ((with_reducible refine cn.mono ?_); rintro e w' ⟨rfl, rfl⟩))
        go_roundw
        case rel => exact ⟨k + 1, B, bcap, by omega, by go_num, by rw [HE.out], by rw [HE.out]; exact R.out⟩
        case measure => simp [intOf]; omega
    · obtain rfl : k = c.length := by omega
      have HE := Lib.hid (show c.take c.length = c from List.take_length)
      go_wp2_with fail
      go_ret
      exact ⟨B, bcap, by rw [HE.out]; (first | done | rfl), by have := R.out; rw [HE.out] at this; exact this⟩
end Go.Proofs.YtpmdnbdmocdngaaGreat

namespace Go.Proofs
open Go.Shelf
def Tryz.lays122_ren : Go.Shelf.Ren := ⟨fun | 122 => 136 | 215 => 186 | n => n, fun | 3 => 3 | 4 => 4 | n => n, fun | n => n⟩
theorem Tryz.lays122 : Go.Proofs.Lays.n122 Tryz.prog Tryz.lays122_ren := {
  mixed := by kernel_rfl
  f122 := Tryz.func136.trans (congrArg some (by kernel_rfl))
  f215 := Tryz.func186.trans (congrArg some (by kernel_rfl))
  t3 := Tryz.underlying3
  a3 := Tryz.isAgg3
  z3 := Tryz.sizeOf3
  v3 := Tryz.zeroValue3
  t4 := Tryz.underlying4
  a4 := Tryz.isAgg4
  z4 := Tryz.sizeOf4
  v4 := Tryz.zeroValue4 }
open Go.RowKit in
/-- cmp.Compare at int: "Compare returns -1 if x is less than y, 0 if x equals y, +1 if x is greater than y.": IT RETURNS 'Lib.compareInt x y'; the world is as it was. (LAID: no walk: one application.) -/
theorem Tryz.cmp_Compare_int (x y : Int) (w : World) :
    Calls Tryz.prog 136 #[.int .i64 x, .int .i64 y] w fun e w' => e = .returned (.int .i64 (Lib.compareInt x y)) ∧ w' = w := Any.cmp_Compare_int Tryz.lays122 x y w
def Tryz.laysNm220_ren : Go.Shelf.Ren := ⟨fun | 20 => 107 | n => n, fun | 22 => 36 | 3 => 3 | 4 => 4 | 0 => 0 | n => n, fun | n => n⟩
theorem Tryz.laysNm220 : Go.Proofs.Lays2.n20 Tryz.prog Tryz.laysNm220_ren := {
  mixed := by kernel_rfl
  f20 := Tryz.func107.trans (congrArg some (by kernel_rfl))
  t0 := Tryz.underlying0
  a0 := Tryz.isAgg0
  z0 := Tryz.sizeOf0
  v0 := Tryz.zeroValue0
  t3 := Tryz.underlying3
  a3 := Tryz.isAgg3
  z3 := Tryz.sizeOf3
  v3 := Tryz.zeroValue3
  t4 := Tryz.underlying4
  a4 := Tryz.isAgg4
  z4 := Tryz.sizeOf4
  v4 := Tryz.zeroValue4
  t22 := Tryz.underlying36
  a22 := Tryz.isAgg36
  z22 := Tryz.sizeOf36
  v22 := Tryz.zeroValue36
  i3 := by kernel_rfl }
open Go.RowKit Go.Lib Go.Sort in
/-- slices.Compact at []int: "Compact replaces consecutive runs of equal elements with a single copy. This is like the uniq command found on Unix. Compact modifies the contents of the slice s and returns the modified slice, which may have a smaller length. Compact zeroes the elements between the new length and the original length. The result preserves the nilness of s.": IT RETURNS THE SLICE CUT TO 'Lib.compact zs'; ITS CELLS HOLD 'Lib.compact zs', THEN ZERO VALUES up to the old length; all else is as it was, but for the count of draws. IN THE WORDS OF slices.Sort's CONTRACT ('Holds', 'putRow'): so the everyday 'slices.Sort(xs); xs = slices.Compact(xs)' goes from the one contract to the other. It asks 'zs.length ≤ cap' (every slice's: the reslicing 's[:k]' looks at it). Length 0, nil: '.._empty'. (LAID: no walk: one application.) -/
theorem Tryz.slices_Compact_int (blk off cap : Nat) (zs : List Int) (w : World) (hH : Holds (Value.int .i64) w blk off zs.toArray) (hsz : zs.length ≤ 9223372036854775807) (hcap : zs.length ≤ cap) :
    Calls Tryz.prog 107 #[.slice (some ⟨blk, off, none⟩) zs.length cap] w fun e w' => e = .returned (.slice (some ⟨blk, off, none⟩) (Lib.compact zs).length cap) ∧ ∃ q, w' = putRow (Value.int .i64) (Sort.ahead w q) blk off (Lib.compact zs ++ List.replicate (zs.length - (Lib.compact zs).length) 0).toArray := Any.slices_Compact_int Tryz.laysNm220 blk off cap zs w hH hsz hcap
open Go.RowKit Go.Lib Go.Sort in
/-- The same at a slice of length 0, a nil one too: it comes back as it is. (LAID: no walk: one application.) -/
theorem Tryz.slices_Compact_int_empty (a : Option Addr) (cap : Nat) (w : World) :
    Calls Tryz.prog 107 #[.slice a 0 cap] w fun e w' => e = .returned (.slice a 0 cap) ∧ w' = w := Any.slices_Compact_int_empty Tryz.laysNm220 a cap w
def Tryz.laysSlF06_f105_ren : Go.Shelf.Ren := ⟨fun | 6 => 105 | 15 => 113 | 14 => 134 | 28 => 152 | 29 => 153 | 20 => 178 | 21 => 179 | 22 => 180 | 23 => 181 | 24 => 182 | 25 => 183 | 26 => 184 | 27 => 185 | 46 => 209 | 47 => 188 | 48 => 189 | 49 => 210 | 50 => 211 | 57 => 222 | n => n, fun | 22 => 36 | 24 => 3 | 25 => 70 | 3 => 3 | 39 => 32 | 0 => 0 | 53 => 145 | 55 => 156 | 4 => 4 | 46 => 225 | 45 => 224 | 50 => 79 | 5 => 5 | 9 => 9 | 66 => 256 | 70 => 260 | 76 => 277 | 77 => 278 | n => n, fun | n => n⟩
theorem Tryz.laysSlF06_f105 : Go.Proofs.SlLaysF0.n6 Tryz.prog Tryz.laysSlF06_f105_ren := {
  mixed := by kernel_rfl
  f6 := ⟨Tryz.f105.name, by decide, Tryz.func105.trans (congrArg some (by kernel_rfl))⟩
  f14 := ⟨Tryz.f134.name, by decide, Tryz.func134.trans (congrArg some (by kernel_rfl))⟩
  f15 := Tryz.func113.trans (congrArg some (by kernel_rfl))
  f20 := ⟨Tryz.f178.name, by decide, Tryz.func178.trans (congrArg some (by kernel_rfl))⟩
  f21 := ⟨Tryz.f179.name, by decide, Tryz.func179.trans (congrArg some (by kernel_rfl))⟩
  f22 := ⟨Tryz.f180.name, by decide, Tryz.func180.trans (congrArg some (by kernel_rfl))⟩
  f23 := ⟨Tryz.f181.name, by decide, Tryz.func181.trans (congrArg some (by kernel_rfl))⟩
  f24 := ⟨Tryz.f182.name, by decide, Tryz.func182.trans (congrArg some (by kernel_rfl))⟩
  f25 := ⟨Tryz.f183.name, by decide, Tryz.func183.trans (congrArg some (by kernel_rfl))⟩
  f26 := ⟨Tryz.f184.name, by decide, Tryz.func184.trans (congrArg some (by kernel_rfl))⟩
  f27 := ⟨Tryz.f185.name, by decide, Tryz.func185.trans (congrArg some (by kernel_rfl))⟩
  f28 := Tryz.func152.trans (congrArg some (by kernel_rfl))
  f29 := Tryz.func153.trans (congrArg some (by kernel_rfl))
  f46 := ⟨Tryz.f209.name, by decide, Tryz.func209.trans (congrArg some (by kernel_rfl))⟩
  f47 := Tryz.func188.trans (congrArg some (by kernel_rfl))
  f48 := Tryz.func189.trans (congrArg some (by kernel_rfl))
  f49 := ⟨Tryz.f210.name, by decide, Tryz.func210.trans (congrArg some (by kernel_rfl))⟩
  f50 := ⟨Tryz.f211.name, by decide, Tryz.func211.trans (congrArg some (by kernel_rfl))⟩
  f57 := ⟨Tryz.f222.name, by decide, Tryz.func222.trans (congrArg some (by kernel_rfl))⟩
  t0 := Tryz.underlying0
  a0 := Tryz.isAgg0
  z0 := Tryz.sizeOf0
  v0 := Tryz.zeroValue0
  t3 := Tryz.underlying3
  a3 := Tryz.isAgg3
  z3 := Tryz.sizeOf3
  v3 := Tryz.zeroValue3
  t4 := Tryz.underlying4
  a4 := Tryz.isAgg4
  z4 := Tryz.sizeOf4
  v4 := Tryz.zeroValue4
  t5 := Tryz.underlying5
  a5 := Tryz.isAgg5
  z5 := Tryz.sizeOf5
  v5 := Tryz.zeroValue5
  t9 := Tryz.underlying9
  a9 := Tryz.isAgg9
  z9 := Tryz.sizeOf9
  v9 := Tryz.zeroValue9
  t22 := Tryz.underlying36
  a22 := Tryz.isAgg36
  z22 := Tryz.sizeOf36
  v22 := Tryz.zeroValue36
  t25 := Tryz.underlying70
  a25 := Tryz.isAgg70
  z25 := Tryz.sizeOf70
  v25 := Tryz.zeroValue70
  t39 := Tryz.underlying32
  a39 := Tryz.isAgg32
  z39 := Tryz.sizeOf32
  v39 := Tryz.zeroValue32
  t45 := Tryz.underlying224
  a45 := Tryz.isAgg224
  z45 := Tryz.sizeOf224
  v45 := Tryz.zeroValue224
  t46 := Tryz.underlying225
  a46 := Tryz.isAgg225
  z46 := Tryz.sizeOf225
  v46 := Tryz.zeroValue225
  t50 := Tryz.underlying79
  a50 := Tryz.isAgg79
  z50 := Tryz.sizeOf79
  v50 := Tryz.zeroValue79
  t53 := Tryz.underlying145
  a53 := Tryz.isAgg145
  z53 := Tryz.sizeOf145
  v53 := Tryz.zeroValue145
  t55 := Tryz.underlying156
  a55 := Tryz.isAgg156
  z55 := Tryz.sizeOf156
  v55 := Tryz.zeroValue156
  t66 := Tryz.underlying256
  a66 := Tryz.isAgg256
  z66 := Tryz.sizeOf256
  v66 := Tryz.zeroValue256
  t70 := Tryz.underlying260
  a70 := Tryz.isAgg260
  z70 := Tryz.sizeOf260
  v70 := Tryz.zeroValue260
  t76 := Tryz.underlying277
  a76 := Tryz.isAgg277
  z76 := Tryz.sizeOf277
  v76 := Tryz.zeroValue277
  t77 := Tryz.underlying278
  a77 := Tryz.isAgg278
  z77 := Tryz.sizeOf278
  v77 := Tryz.zeroValue278 }
open Go.RowKit Go.Lib Go.Sort in
/-- **slices.SortFunc AT NO ELEMENT, A nil SLICE TOO: nothing turns.** (LAID AT THE INSTANCE 'slices.SortFunc[[]int,int]': no walk: one application.) -/
theorem Tryz.slices_SortFunc_none {α : Type} [Inhabited α] (p : Option Addr) (cap : Nat) (fv : Value) (w : World) :
    Calls Tryz.prog 105 #[.slice p 0 cap, fv] w fun e w' => e = .returned (.tuple #[]) ∧ w' = w := AnyF.slices_SortFunc_none Tryz.laysSlF06_f105 p cap fv w
def Tryz.laysSlF6_f105_ren : Go.Shelf.Ren := ⟨fun | 6 => 105 | 15 => 113 | 14 => 134 | 28 => 152 | 29 => 153 | 20 => 178 | 21 => 179 | 22 => 180 | 23 => 181 | 24 => 182 | 25 => 183 | 26 => 184 | 27 => 185 | 46 => 209 | 47 => 188 | 48 => 189 | 49 => 210 | 50 => 211 | 57 => 222 | n => n, fun | 22 => 36 | 24 => 3 | 25 => 70 | 3 => 3 | 39 => 32 | 0 => 0 | 53 => 145 | 55 => 156 | 4 => 4 | 46 => 225 | 45 => 224 | 50 => 79 | 5 => 5 | 9 => 9 | 66 => 256 | 70 => 260 | 76 => 277 | 77 => 278 | n => n, fun | n => n⟩
theorem Tryz.laysSlF6_f105 : Go.Proofs.SlLaysF.n6 Tryz.prog Tryz.laysSlF6_f105_ren := {
  mixed := by kernel_rfl
  f6 := ⟨Tryz.f105.name, by decide, Tryz.func105.trans (congrArg some (by kernel_rfl))⟩
  f14 := ⟨Tryz.f134.name, by decide, Tryz.func134.trans (congrArg some (by kernel_rfl))⟩
  f15 := Tryz.func113.trans (congrArg some (by kernel_rfl))
  f20 := ⟨Tryz.f178.name, by decide, Tryz.func178.trans (congrArg some (by kernel_rfl))⟩
  f21 := ⟨Tryz.f179.name, by decide, Tryz.func179.trans (congrArg some (by kernel_rfl))⟩
  f22 := ⟨Tryz.f180.name, by decide, Tryz.func180.trans (congrArg some (by kernel_rfl))⟩
  f23 := ⟨Tryz.f181.name, by decide, Tryz.func181.trans (congrArg some (by kernel_rfl))⟩
  f24 := ⟨Tryz.f182.name, by decide, Tryz.func182.trans (congrArg some (by kernel_rfl))⟩
  f25 := ⟨Tryz.f183.name, by decide, Tryz.func183.trans (congrArg some (by kernel_rfl))⟩
  f26 := ⟨Tryz.f184.name, by decide, Tryz.func184.trans (congrArg some (by kernel_rfl))⟩
  f27 := ⟨Tryz.f185.name, by decide, Tryz.func185.trans (congrArg some (by kernel_rfl))⟩
  f28 := Tryz.func152.trans (congrArg some (by kernel_rfl))
  f29 := Tryz.func153.trans (congrArg some (by kernel_rfl))
  f46 := ⟨Tryz.f209.name, by decide, Tryz.func209.trans (congrArg some (by kernel_rfl))⟩
  f47 := Tryz.func188.trans (congrArg some (by kernel_rfl))
  f48 := Tryz.func189.trans (congrArg some (by kernel_rfl))
  f49 := ⟨Tryz.f210.name, by decide, Tryz.func210.trans (congrArg some (by kernel_rfl))⟩
  f50 := ⟨Tryz.f211.name, by decide, Tryz.func211.trans (congrArg some (by kernel_rfl))⟩
  f57 := ⟨Tryz.f222.name, by decide, Tryz.func222.trans (congrArg some (by kernel_rfl))⟩
  t0 := Tryz.underlying0
  a0 := Tryz.isAgg0
  z0 := Tryz.sizeOf0
  v0 := Tryz.zeroValue0
  t3 := Tryz.underlying3
  a3 := Tryz.isAgg3
  z3 := Tryz.sizeOf3
  v3 := Tryz.zeroValue3
  t4 := Tryz.underlying4
  a4 := Tryz.isAgg4
  z4 := Tryz.sizeOf4
  v4 := Tryz.zeroValue4
  t5 := Tryz.underlying5
  a5 := Tryz.isAgg5
  z5 := Tryz.sizeOf5
  v5 := Tryz.zeroValue5
  t9 := Tryz.underlying9
  a9 := Tryz.isAgg9
  z9 := Tryz.sizeOf9
  v9 := Tryz.zeroValue9
  t22 := Tryz.underlying36
  a22 := Tryz.isAgg36
  z22 := Tryz.sizeOf36
  v22 := Tryz.zeroValue36
  a24 := Tryz.isAgg3
  z24 := Tryz.sizeOf3
  t25 := Tryz.underlying70
  a25 := Tryz.isAgg70
  z25 := Tryz.sizeOf70
  v25 := Tryz.zeroValue70
  t39 := Tryz.underlying32
  a39 := Tryz.isAgg32
  z39 := Tryz.sizeOf32
  v39 := Tryz.zeroValue32
  t45 := Tryz.underlying224
  a45 := Tryz.isAgg224
  z45 := Tryz.sizeOf224
  v45 := Tryz.zeroValue224
  t46 := Tryz.underlying225
  a46 := Tryz.isAgg225
  z46 := Tryz.sizeOf225
  v46 := Tryz.zeroValue225
  t50 := Tryz.underlying79
  a50 := Tryz.isAgg79
  z50 := Tryz.sizeOf79
  v50 := Tryz.zeroValue79
  t53 := Tryz.underlying145
  a53 := Tryz.isAgg145
  z53 := Tryz.sizeOf145
  v53 := Tryz.zeroValue145
  t55 := Tryz.underlying156
  a55 := Tryz.isAgg156
  z55 := Tryz.sizeOf156
  v55 := Tryz.zeroValue156
  t66 := Tryz.underlying256
  a66 := Tryz.isAgg256
  z66 := Tryz.sizeOf256
  v66 := Tryz.zeroValue256
  t70 := Tryz.underlying260
  a70 := Tryz.isAgg260
  z70 := Tryz.sizeOf260
  v70 := Tryz.zeroValue260
  t76 := Tryz.underlying277
  a76 := Tryz.isAgg277
  z76 := Tryz.sizeOf277
  v76 := Tryz.zeroValue277
  t77 := Tryz.underlying278
  a77 := Tryz.isAgg278
  z77 := Tryz.sizeOf278
  v77 := Tryz.zeroValue278 }
open Go.RowKit Go.Lib Go.Sort in
/-- **slices.SortFunc AT ONE CELL, UNDER A 'cmp' THAT PARTS WHATEVER TWO THAT ARE NOT ONE: THE ROW HOLDS core's 'mergeSort'.** (LAID AT THE INSTANCE 'slices.SortFunc[[]int,int]': no walk: one application.) -/
theorem Tryz.slices_SortFunc_total {α : Type} [Inhabited α] (enc : α → Value) (h1 : OneCell enc) (cf : α → α → Int) (hO : SWO (ltOf cf)) (g : Nat) (cb : Array Value) (blk off cap : Nat) (d : Array α) (w : World) (eg : ∀ args w, (callFunc g args).run Tryz.prog w = .ok (.enter g args) w) (hcmp : CmpLays1 Tryz.prog g cb enc cf blk off d.size w) (hH : Holds enc w blk off d) (hblk : blk < w.heap.size) (hsz : d.size < 4611686018427387904) (hT : ∀ x y, (ltOf cf) x y = false → (ltOf cf) y x = false → x = y) :
    Calls Tryz.prog 105 #[.slice (some ⟨blk, off, none⟩) d.size cap, .func (.func g) #[] cb] w fun e w' =>
      e = .returned (.tuple #[]) ∧ ∃ n os, w' = sortWorld enc w blk off n (d.toList.mergeSort fun x y => !(ltOf cf) y x).toArray os := Any.slices_SortFunc_total Tryz.laysSlF6_f105 enc h1 cf hO g cb blk off cap d w eg hcmp hH hblk hsz hT
end Go.Proofs

namespace Go.Proofs.YtpmdnbdmocdngaaGreat
open Go.ChangeShapes Go.WideShapes Go.ChangeAt Go.RowKit Go.Sort Go.Proofs
set_option linter.unusedVariables false

/-! ### The order, as the library's sort asks it -/
theorem cf_lt (x y : Int) : ltOf cfM x y = ltL x y := by
  unfold ltOf cfM cmpI ltL
  by_cases h1 : numb x < numb y
  · simp [h1]
  · by_cases h2 : numb y < numb x
    · simp [h1, h2]; omega
    · have e : numb x = numb y := by omega
      by_cases h3 : y < x
      · simp [e, h3]
      · by_cases h4 : x < y <;> simp [e, h3, h4]
theorem swo : SWO (ltOf cfM) where
  irrefl x := by rw [cf_lt]; exact ltL_irr x
  trans x y z h k := by rw [cf_lt] at *; exact ltL_trans h k
  ntrans x y z h k := by
    rw [cf_lt] at *
    unfold ltL at *; rw [decide_eq_false_iff_not] at *; omega
theorem cf_tot (x y : Int) (h : ltOf cfM x y = false) (k : ltOf cfM y x = false) : x = y := by rw [cf_lt] at *; exact ltL_tot h k

theorem sort_rise (s : List Int) : (s.mergeSort fun x y => !ltOf cfM y x).Pairwise fun x y => ltL y x = false := by
  have h := List.pairwise_mergeSort (le := fun x y => !ltOf cfM y x)
    (fun x y z h k => by simp [cf_lt] at *; exact (by
      have := swo.ntrans z y x (by rw [cf_lt]; exact k) (by rw [cf_lt]; exact h)
      rw [cf_lt] at this; exact this))
    (fun x y => by
      simp [cf_lt]
      cases h : ltL y x
      · exact .inl rfl
      · exact .inr (ltL_asymm h)) s
  exact h.imp fun h => by simpa [cf_lt] using h
theorem srt (c : List Int) : Lib.compact ((c.filter lit).mergeSort fun x y => !ltOf cfM y x) = row c :=
  (compact_rise (sort_rise _)).ext (row_spec c).1 fun x => by
    rw [compact_mem, List.mem_mergeSort, List.mem_filter, (row_spec c).2]


/-! ### byNumber -/
def orM (c : List Int) : Int := (c.find? fun x => x != 0).getD 0
theorem or_hit {c : List Int} {k : Nat} {x : Int} (h : (c.take k).all (fun x => x == 0) = true) (hx : c[k]? = some x) (h0 : x ≠ 0) : orM c = x := by
  have hk := (List.getElem?_eq_some_iff.1 hx)
  obtain ⟨hk, hk'⟩ := hk
  have e : c = c.take k ++ x :: c.drop (k + 1) := by
    rw [← hk', List.getElem_cons_drop, List.take_append_drop]
  unfold orM
  rw [e, List.find?_append, List.find?_eq_none.2 (fun y hy => by have := List.all_eq_true.1 h y hy; simp at this; simp [this])]
  simp [h0]
theorem or_miss {c : List Int} (h : c.all (fun x => x == 0) = true) : orM c = 0 := by
  unfold orM
  rw [List.find?_eq_none.2 (fun y hy => by have := List.all_eq_true.1 h y hy; simp at this; simp [this])]; rfl
set_option maxHeartbeats 800000 in
theorem or_any (A : Option Addr) (c : List Int) (cap : Nat) (w : World) (hc : SeqAt (Value.int .i64) w A c) (hn : c.length ≤ 9223372036854775807) :
    Calls Tryz.prog 135 #[.slice A c.length cap] w fun e w' => e = .returned (.int .i64 (orM c)) ∧ w = w' := by
  have HC := Lib.hid hc
  clear hc
  go_enter Tryz.func135, Tryz.ntmps135
  go_wp2_with fail
  go_loop [8] (fun i => ∃ k : Nat, k ≤ c.length ∧ i = .int .i64 k ∧ Hid ((c.take k).all (fun x => x == 0) = true)) (fun i => c.length - (intOf i).toNat)
  case atStart => exact ⟨0, by omega, rfl, by simp [Hid]⟩
  case round =>
    obtain ⟨k, hk, rfl, H⟩ := hrel
    by_cases hlt : k < c.length
    · obtain ⟨x, hz⟩ : ∃ x, c[k]? = some x := ⟨_, List.getElem?_eq_getElem hlt⟩
      obtain ⟨a, rfl, hcell⟩ := HC.out.get k x hz
      by_cases h0 : x = 0
      · subst h0
        have HE := Lib.hid (show (c.take (k + 1)).all (fun x => x == 0) = true by rw [all_take hz, H.out]; rfl)
        clear hz
        go_wp2_with fail
        go_round
        case rel => exact ⟨k + 1, by omega, by go_num, HE.out⟩
        case measure => simp [intOf]; omega
      · have HE := Lib.hid (or_hit H.out hz h0)
        have e1 : (x == 0) = false := by simpa using h0
        have e2 : (x != 0) = true := by simpa using h0
        clear hz h0
        go_wp2_with fail
        go_ret
        exact ⟨by rw [HE.out]; (first | done | rfl), rfl⟩
    · obtain rfl : k = c.length := by omega
      have HE := Lib.hid (or_miss (by have := H.out; rw [List.take_length] at this; exact this))
      clear H
      go_wp2_with fail
      go_ret
      exact ⟨by rw [HE.out]; (first | done | rfl), rfl⟩
theorem cmp_any (x y : Int) (w : World) : Calls Tryz.prog 136 #[.int .i64 x, .int .i64 y] w fun e w' => e = .returned (.int .i64 (cmpI x y)) ∧ w = w' :=
  (Tryz.cmp_Compare_int x y w).mono fun _ _ ⟨he, hw⟩ => ⟨he, hw.symm⟩
theorem orM_cf (x y : Int) : orM [cmpI (numb x) (numb y), cmpI y x] = cfM x y := by
  unfold orM cfM
  by_cases h : cmpI (numb x) (numb y) = 0
  · rw [if_pos h, h]
    by_cases g : cmpI y x = 0
    · simp [g]
    · simp [g]
  · rw [if_neg h]; simp [h]
theorem two_at (w : World) (t : TypeId) (x y : Int) : SeqAt (Value.int .i64) (w.alloc (.cells #[.int .i64 x, .int .i64 y] t)) (some ⟨w.heap.size, 0, none⟩) [x, y] := by
  refine ⟨fun i z hz => ⟨_, rfl, ?_⟩⟩
  match i, hz with
  | 0, hz => simp at hz; subst hz; rw [show (⟨w.heap.size, 0, none⟩ : Addr).add 0 = ⟨w.heap.size, 0, none⟩ from rfl, World.cell?_alloc_at _ _ _ _ rfl]; rfl
  | 1, hz => simp at hz; subst hz; rw [show (⟨w.heap.size, 0, none⟩ : Addr).add 1 = ⟨w.heap.size, 1, none⟩ from rfl, World.cell?_alloc_at _ _ _ _ rfl]; rfl
theorem wrap64_eq (a : Int) : wrap64 a = IntKind.i64.wrap a := by unfold wrap64 IntKind.wrap; simp [IntKind.bits, IntKind.signed]; split <;> omega
theorem number_all (l : Int) (W : World) : Calls Tryz.prog 54 #[.int .i64 l] W fun e W' => e = .returned (.int .i64 (numb l)) ∧ W = W' := by
  by_cases h : l < 0
  · have HE := Lib.hid (show numb l = wrap64 (-l) by unfold numb; rw [if_pos h, wrap64_eq])
    go_enter Tryz.func54, Tryz.ntmps54
    go_wp2
    go_ret
    exact ⟨by rw [HE.out]; (first | done | rfl), rfl⟩
  · have h' : 0 ≤ l := by omega
    rw [numb_pos h']
    clear h
    go_enter Tryz.func54, Tryz.ntmps54
    go_wp2
    go_ret
    exact ⟨rfl, rfl⟩
theorem byNumber_any (x y : Int) (w : World) :
    Calls Tryz.prog 106 #[.int .i64 x, .int .i64 y] w fun e w' => e = .returned (.int .i64 (cfM x y)) ∧ ∃ q os', w' = grow (w.drewN q) os' := by
  have c1 := number_all x w
  have c2 := number_all y w
  have k1 := cmp_any (numb x) (numb y) w
  have k2 := cmp_any y x w
  have HO := Lib.hid (fun p q : Int => or_any (some ⟨w.heap.size, 0, none⟩) [p, q] 2 _ (two_at w 3 p q) (by simp))
  have HE := Lib.hid (orM_cf x y)
  generalize numb x = nx at *
  generalize numb y = ny at *
  generalize cmpI nx ny = p at *
  generalize cmpI y x = q at *
  have c3 := HO.out p q
  rw [HE.out] at c3
  generalize cfM x y = r at *
  go_enter Tryz.func106, Tryz.ntmps106
  go_wp2_with (first | (go_at_call 54; (first | ((with_reducible refine c1.mono ?_); rintro e w' ⟨rfl, rfl⟩) | ((with_reducible refine c2.mono ?_); rintro e w' ⟨rfl, rfl⟩))) | (go_at_call 136; (first | ((with_reducible refine k1.mono ?_); rintro e w' ⟨rfl, rfl⟩) | ((with_reducible refine k2.mono ?_); rintro e w' ⟨rfl, rfl⟩))) | (go_at_call 135; (refine c3.mono ?_); rintro e w' ⟨rfl, rfl⟩))
  go_ret
  exact ⟨rfl, 0, _, alloc_eq_grow _ _⟩
end Go.Proofs.YtpmdnbdmocdngaaGreat
