/-
  gather and many of package fix: the numbers that stand in the place of variables, by id.
-/
import Derived.Test.YtgbmiphaabeodaaDoorTermO
import Derived.Test.YtgbmiphaabeodaaDoorTermL
namespace Go.Proofs.YtgbmiphaabeodaaDoor
open Go.ChangeShapes Go.WideShapes Go.ChangeAt Go.RowKit
set_option linter.unusedVariables false
attribute [local go_sem ↓] Go.wp_at_zero Go.wp_at_succ

/-- One number more, of an id that has none yet. -/
def gput (g : Nat → Option Int) (id v : Int) : Nat → Option Int := if 0 ≤ id ∧ id < 64 ∧ g id.toNat = none then fun i => if i = id.toNat then some v else g i else g
/-- The numbers by their ids: of one that stands twice the first. -/
def gof (l : List (Int × Int)) : Nat → Option Int := l.foldl (fun g p => gput g p.1 p.2) fun _ => none
theorem gof_snoc (l : List (Int × Int)) (p : Int × Int) : gof (l ++ [p]) = gput (gof l) p.1 p.2 := by simp [gof]
theorem gof_take {l : List (Int × Int)} {k : Nat} {p : Int × Int} (h : l[k]? = some p) : gof (l.take (k + 1)) = gput (gof (l.take k)) p.1 p.2 := by
  have hk := (List.getElem?_eq_some_iff.1 h).1
  rw [List.take_succ_eq_append_getElem hk, gof_snoc]
  have := (List.getElem?_eq_some_iff.1 h).2
  rw [this]
def GOk (g : Nat → Option Int) : Prop := ∀ i v, g i = some v → i < 64 ∧ 0 ≤ v ∧ v ≤ 65535
theorem GOk.put {g : Nat → Option Int} (h : GOk g) (id : Int) {v : Int} (h0 : 0 ≤ v) (h1 : v ≤ 65535) : GOk (gput g id v) := by
  unfold gput
  split
  · rename_i hc
    intro i u hu
    simp only at hu
    split at hu
    · injection hu with hu; subst hu; rename_i e; exact ⟨by omega, h0, h1⟩
    · exact h i u hu
  · exact h
/-- How the numbers lie in memory. -/
def ga (g : Nat → Option Int) : Array Value := ⟨((List.range 64).map fun i => .bool (g i).isSome) ++ ((List.range 64).map fun i => .int .u16 ((g i).getD 0))⟩
theorem ga_is {w : World} {gb : Nat} {g : Nat → Option Int} (h : Has w gb 81 (ga g)) {i : Nat} (hi : i < 64) : w.cell? ⟨gb, i, none⟩ = some (.bool (g i).isSome) := by
  rw [h.cell]; simp [ga, hi, List.getElem?_append_left]
theorem ga_val {w : World} {gb : Nat} {g : Nat → Option Int} (h : Has w gb 81 (ga g)) {i : Nat} (hi : i < 64) : w.cell? ⟨gb, 64 + i, none⟩ = some (.int .u16 ((g i).getD 0)) := by
  rw [h.cell]; simp [ga, hi, List.getElem?_append_right]
theorem ga_put {g : Nat → Option Int} {id : Nat} (hid : id < 64) (v : Int) : ((ga g).setIfInBounds id (.bool true)).setIfInBounds (64 + id) (.int .u16 v) = ga (fun i => if i = id then some v else g i) := by
  apply Array.ext'
  rw [Array.toList_setIfInBounds, Array.toList_setIfInBounds]
  refine List.ext_getElem? fun i => ?_
  by_cases h1 : i < 64
  · rw [List.getElem?_set_ne (by omega)]
    by_cases e : id = i
    · subst e; rw [List.getElem?_set_self (by simp [ga]; omega)]; simp [ga, h1, List.getElem?_append_left]
    · rw [List.getElem?_set_ne e]; simp [ga, h1, List.getElem?_append_left, show ¬ i = id from fun k => e k.symm]
  · by_cases h2 : i < 128
    · obtain ⟨j, rfl⟩ : ∃ j, i = 64 + j := ⟨i - 64, by omega⟩
      have hj : j < 64 := by omega
      by_cases e : id = j
      · subst e; rw [List.getElem?_set_self (by simp [ga]; omega)]; simp [ga, hj, List.getElem?_append_right]
      · rw [List.getElem?_set_ne (by omega), List.getElem?_set_ne (by omega)]; simp [ga, hj, List.getElem?_append_right, show ¬ j = id from fun k => e k.symm]
    · rw [List.getElem?_eq_none (by simp [ga]; omega), List.getElem?_eq_none (by simp [ga]; omega)]
theorem zero_given (w : World) : (Instr.build 81 #[]).run Tryd.prog w = .ok (.agg (ga fun _ => none)) w := by kernel_rfl
/-- A slice of numbers in memory. -/
structure NumsAt (k : IntKind) (w : World) (A : Option Addr) (zs : List Int) : Prop where
  get : ∀ (i : Nat) (z : Int), zs[i]? = some z → ∃ a, A = some a ∧ w.cell? (a.add i) = some (.int k z)
  lt : ∀ a, A = some a → a.block < w.heap.size
  wf : ∀ z ∈ zs, (Lit.int k z).wf = true
theorem NumsAt.keep {k : IntKind} {w w' : World} {A : Option Addr} {zs : List Int} (h : NumsAt k w A zs) (b : Below w.heap.size w w') : NumsAt k w' A zs :=
  ⟨fun i z hz => by
    obtain ⟨a, ha, hc⟩ := h.get i z hz
    exact ⟨a, ha, (b.cell (p := a.add i) (by rw [add_block]; exact h.lt a ha)).trans hc⟩, fun a ha => Nat.lt_of_lt_of_le (h.lt a ha) b.size, h.wf⟩
def GPost (w : World) (g : Nat → Option Int) (e : Ending) (w' : World) : Prop := ∃ gb, e = .returned (ptr gb) ∧ Has w' gb 81 (ga g) ∧ w.heap.size ≤ gb ∧ Below w.heap.size w w'
structure GRel (w wr : World) (gb : Nat) (g : Nat → Option Int) : Prop where
  has : Has wr gb 81 (ga g)
  ge : w.heap.size ≤ gb
  below : Below w.heap.size w wr
  ok : GOk g
theorem rowi_at {w : World} {base : Nat} {e : TypeId} {n : Nat} {v : Value} {xs : List Value} (h : w.ownsRow base e 1 v n xs) {i : Nat} {u : Value} (hu : xs[i]? = some u) :
    ∃ (g cap : Nat), v = .slice (some ⟨g, 0, none⟩) n cap ∧ g < w.heap.size ∧ n ≤ cap ∧ cap ≤ maxLen ∧ w.cell? ⟨g, i, none⟩ = some u := by
  have hl : i < n := by have := (List.getElem?_eq_some_iff.1 hu).1; have := h.1; omega
  rcases h.2 with ⟨_, h0⟩ | ⟨g, cap, cur, rfl, _, hh, hn, hc, hsz, ht⟩
  · omega
  · refine ⟨g, cap, rfl, lt_of_heap hh, hn, hc, ?_⟩
    have hx : Has w g e cur := hh
    rw [hx.cell, ← hu, ← ht, List.getElem?_take_of_lt (by omega)]
    simp
theorem GRel.put {w wr W : World} {gb : Nat} {g : Nat → Option Int} (h : GRel w wr gb g) {id : Nat} (hid : id < 64) (v : Int) (hok : GOk (fun i => if i = id then some v else g i))
    (he : W.heap = ((wr.setCell ⟨gb, id, none⟩ (.bool true)).setCell ⟨gb, 64 + id, none⟩ (.int .u16 v)).heap) (h1 : W.os = wr.os) (h2 : W.tape = wr.tape) (h3 : W.output = wr.output) : GRel w W gb (fun i => if i = id then some v else g i) := by
  have h4 := (h.has.put id (.bool true)).put (64 + id) (.int .u16 v)
  rw [ga_put hid] at h4
  have hb := (h.below.setCell (p := ⟨gb, id, none⟩) h.ge (.bool true)).setCell (p := ⟨gb, 64 + id, none⟩) h.ge (.int .u16 v)
  exact ⟨h4.same (by rw [he]), h.ge, below_alike3 hb he h1 h2 h3, hok⟩
set_option maxHeartbeats 1600000 in
set_option maxRecDepth 100000 in
theorem gather_any (w : World) (A B : Option Addr) (ids vals : List Int) (icap vcap : Nat) (hI : NumsAt .i64 w A ids) (hV : EnvAt w B vals) (hl : ids.length = vals.length) (hn : ids.length ≤ 9223372036854775807) :
    Calls Tryd.prog 29 #[.slice A ids.length icap, .slice B vals.length vcap] w (GPost w (gof (ids.zip vals))) := by
  have HI := Lib.hid hI
  have HV := Lib.hid hV
  have HL := Lib.hid hl
  have HN := Lib.hid (show (ids.zip vals).length = ids.length by rw [List.length_zip, hl, Nat.min_self])
  have zg := zero_given
  have hlv : vals.length ≤ ids.length ∧ ids.length ≤ vals.length := by omega
  clear hI hV hl
  go_enter Tryd.func29, Tryd.ntmps29
  go_wp2_with fail
  go_loopw [12] (fun i wr => ∃ k : Nat, k ≤ ids.length ∧ i = .int .i64 k ∧ GRel w wr w.heap.size (gof ((ids.zip vals).take k))) (fun i _ => ids.length - (intOf i).toNat)
  case atStart => exact ⟨0, by omega, rfl, ⟨Has.new w 81 (ga fun _ => none), Nat.le_refl _, (Below.refl _ _).alloc (Nat.le_refl _) _, fun i v h => by cases h⟩⟩
  case round =>
    obtain ⟨k, hk, rfl, hrel⟩ := hrel
    have R := Lib.hid hrel
    clear hrel
    by_cases hlt : k < ids.length
    · obtain ⟨z, hz⟩ : ∃ z, ids[k]? = some z := ⟨_, List.getElem?_eq_getElem hlt⟩
      obtain ⟨v, hv⟩ : ∃ v, vals[k]? = some v := ⟨_, List.getElem?_eq_getElem (by omega)⟩
      obtain ⟨aI, rfl, hcI⟩ := (HI.out.keep R.out.below).get k z hz
      obtain ⟨aV, rfl, hcV⟩ := (HV.out.from_ R.out.below).get k v hv
      have hvr := HV.out.rng v (List.mem_of_getElem? hv)
      obtain ⟨v0, v1⟩ := hvr
      have haI : aI.block < w.heap.size := HI.out.lt aI rfl
      have haV : aV.block < w.heap.size := HV.out.lt aV rfl
      have haI' : aI.block < wr.heap.size := Nat.lt_of_lt_of_le haI R.out.below.size
      have haV' : aV.block < wr.heap.size := Nat.lt_of_lt_of_le haV R.out.below.size
      have HS := Lib.hid (gof_take (l := ids.zip vals) (k := k) (p := (z, v)) (by rw [List.getElem?_zip_eq_some]; exact ⟨hz, hv⟩))
      have hgb : w.heap.size < wr.heap.size := R.out.has.lt
      have hfr : ∀ i, wr.frozen? ⟨w.heap.size, i, none⟩ = false := R.out.has.free
      have hkv : k < vals.length := by omega
      clear hz hv
      generalize gof ((ids.zip vals).take k) = g at R HS
      by_cases z0 : z < 0
      · have HG := Lib.hid (HS.out.trans (show gput g z v = g by unfold gput; rw [if_neg (by omega)]))
        go_wp2_with fail
        go_roundw
        case rel => exact ⟨k + 1, by omega, by go_num, by rw [HG.out]; exact R.out⟩
        case measure => simp [intOf]; omega
      by_cases z1 : 64 ≤ z
      · have HG := Lib.hid (HS.out.trans (show gput g z v = g by unfold gput; rw [if_neg (by omega)]))
        have z0' : 0 ≤ z := by omega
        clear z0
        go_wp2_with fail
        go_roundw
        case rel => exact ⟨k + 1, by omega, by go_num, by rw [HG.out]; exact R.out⟩
        case measure => simp [intOf]; omega
      obtain ⟨id, rfl⟩ := Int.eq_ofNat_of_zero_le (show 0 ≤ z by omega)
      have hid : id < 64 := by omega
      have hid' : (id : Int) < 64 := by omega
      clear z0 z1
      have gi := ga_is R.out.has hid
      have gv := ga_val R.out.has hid
      by_cases hg : g id = none
      · have HG := Lib.hid (HS.out.trans (show gput g (id : Int) v = fun i => if i = id then some v else g i by unfold gput; rw [if_pos ⟨by omega, hid', by rw [Int.toNat_natCast]; exact hg⟩, Int.toNat_natCast]))
        have HOK := Lib.hid (show GOk (fun i => if i = id then some v else g i) from by
          have := R.out.ok.put (id : Int) v0 v1
          rw [← HS.out, HG.out] at this; exact this)
        have HP := Lib.hid (ga_put (g := g) hid v)
        rw [hg] at gi
        clear hg
        go_wp2_with fail
        have hq1 : (aV.add k).block ≠ w.heap.size := by rw [add_block]; omega
        have hq2 : w.heap.size ≠ (aV.add k).block := by rw [add_block]; omega
        have KEEP : ∀ (W : World) (o : Nat) (u : Value), W.cell? (aV.add k) = some (.int .u16 v) → (W.setCell ⟨w.heap.size, o, none⟩ u).cell? (aV.add k) = some (.int .u16 v) := fun W o u h => (World.cell?_of_block (set_other (p := ⟨w.heap.size, o, none⟩) hq1)).trans h
        go_region_held3 (fun w' => w'.cell? (aV.add k) = some (.int .u16 v)) (first | go_keep | (exact KEEP _ _ _ (by assumption)) | (show World.cell? _ _ = _; exact KEEP _ _ _ (by assumption))) (fail)
        go_wp2_with fail
        go_roundw
        case rel => exact ⟨k + 1, by omega, by go_num, by rw [HG.out]; exact R.out.put hid v HOK.out rfl rfl rfl rfl⟩
        case measure => simp [intOf]; omega
      · obtain ⟨u, hu⟩ : ∃ u, g id = some u := by
          cases h : g id with
          | none => exact absurd h hg
          | some u => exact ⟨u, rfl⟩
        have HG := Lib.hid (HS.out.trans (show gput g (id : Int) v = g by unfold gput; rw [if_neg (by rw [Int.toNat_natCast, hu]; simp)]))
        rw [hu] at gi
        clear hg hu
        go_wp2_with fail
        go_roundw
        case rel => exact ⟨k + 1, by omega, by go_num, by rw [HG.out]; exact R.out⟩
        case measure => simp [intOf]; omega
    · obtain rfl : k = ids.length := by omega
      have e := Lib.hid (show (ids.zip vals).take ids.length = ids.zip vals from List.take_of_length_le (by rw [HN.out]; exact Nat.le_refl _))
      go_wp2
      go_ret
      exact ⟨_, rfl, by have := R.out.has; rw [e.out] at this; exact this, R.out.ge, R.out.below⟩
/-- How many of those variables have a number. -/
def gmany (g : Nat → Option Int) (l : List Nat) : Nat := (l.filter fun i => (g i).isSome).length
theorem gmany_le (g : Nat → Option Int) (l : List Nat) : gmany g l ≤ l.length := List.length_filter_le _ _
theorem gmany_zero {g : Nat → Option Int} {l : List Nat} : gmany g l = 0 ↔ ∀ i ∈ l, g i = none := by
  unfold gmany
  rw [List.length_eq_zero_iff, List.filter_eq_nil_iff]
  exact ⟨fun h i hi => by have := h i hi; cases hg : g i <;> simp_all, fun h i hi => by rw [h i hi]; simp⟩
theorem gmany_all {g : Nat → Option Int} {l : List Nat} : gmany g l = l.length ↔ ∀ i ∈ l, g i ≠ none := by
  unfold gmany
  rw [List.length_filter_eq_length_iff]
  exact ⟨fun h i hi e => (by have := h i hi; rw [e] at this; cases this), fun h i hi => by have := h i hi; cases hg : g i <;> simp_all⟩
theorem gmany_snoc (g : Nat → Option Int) (l : List Nat) (i : Nat) : gmany g (l ++ [i]) = gmany g l + if (g i).isSome = true then 1 else 0 := by
  unfold gmany; rw [List.filter_append, List.length_append]
  by_cases h : (g i).isSome = true <;> simp [h]
set_option maxHeartbeats 1600000 in
set_option maxRecDepth 100000 in
theorem many_any (w : World) (gb : Nat) (g : Nat → Option Int) (A : Option Addr) (l : List Nat) (cap base : Nat) (hg : Has w gb 81 (ga g)) (hl : w.ownsRow base 3 1 (.slice A l.length cap) l.length (ints l)) (h64 : ∀ i ∈ l, i < 64) (hn : l.length ≤ 64) :
    Calls Tryd.prog 30 #[ptr gb, .slice A l.length cap] w fun e w' => e = .returned (.int .i64 (gmany g l)) ∧ w = w' := by
  have HG := Lib.hid hg
  have HL := Lib.hid hl
  have H64 := Lib.hid h64
  have hgb := hg.lt
  clear hg hl h64
  go_enter Tryd.func30, Tryd.ntmps30
  go_wp2_with fail
  go_loop [5, 10] (fun n i => ∃ k : Nat, k ≤ l.length ∧ i = .int .i64 k ∧ n = .int .i64 (gmany g (l.take k))) (fun _ i => l.length - (intOf i).toNat)
  case atStart => exact ⟨0, by omega, rfl, rfl⟩
  case round =>
    obtain ⟨k, hk, rfl, rfl⟩ := hrel
    by_cases hlt : k < l.length
    · obtain ⟨i, hi⟩ : ∃ i, l[k]? = some i := ⟨_, List.getElem?_eq_getElem hlt⟩
      have hi64 := H64.out i (List.mem_of_getElem? hi)
      have hi64' : (i : Int) < 64 := by omega
      obtain ⟨vg, vc, hVA, hvg, hvn, hvc, hcj⟩ := rowi_at HL.out (i := k) (u := .int .i64 (i : Int)) (by simp [ints, hi])
      injection hVA with h1 h2 h3
      subst h1; subst h3
      unfold maxLen at hvc
      have gi := ga_is HG.out hi64
      have HS := Lib.hid (show gmany g (l.take (k + 1)) = gmany g (l.take k) + if (g i).isSome = true then 1 else 0 by
        rw [List.take_succ_eq_append_getElem hlt, gmany_snoc, (List.getElem?_eq_some_iff.1 hi).2])
      have hb := gmany_le g (l.take k)
      have hb2 : (l.take k).length ≤ k := List.length_take_le _ _
      clear hi h2
      generalize gmany g (l.take k) = n at *
      cases hs : (g i).isSome
      · rw [hs] at gi HS
        clear hs
        go_wp2_with fail
        go_round
        case rel => exact ⟨k + 1, by omega, by go_num, by rw [HS.out]; rfl⟩
        case measure => simp [intOf]; omega
      · rw [hs] at gi HS
        clear hs
        go_wp2_with fail
        go_round
        case rel => exact ⟨k + 1, by omega, by go_num, by rw [HS.out]; go_num⟩
        case measure => simp [intOf]; omega
    · obtain rfl : k = l.length := by omega
      have e := Lib.hid (show l.take l.length = l from List.take_length)
      go_wp2
      go_ret
      exact ⟨rfl, rfl⟩
end Go.Proofs.YtgbmiphaabeodaaDoor
