/-
  The law TermVars: a variable that does not stand in a term changes nothing of its value; those that are told rise. No condition.
-/
import Derived.Test.YtchbdnifcckloaaDoorTermBuildAll
import Derived.Test.YtchbdnifcckloaaDoorTermZ
import Derived.Test.YtchbdnifcckloaaDoorTermO
import Derived.Test.YtchbdnifcckloaaDoorCards
import Derived.SevenTiedAt
namespace Go.Proofs.YtchbdnifcckloaaDoor.termVars
open Go.ChangeShapes Go.WideShapes Go.ChangeAt Go.RowKit
set_option linter.unusedVariables false

theorem mem_take_succ {l : List Nat} {k j : Nat} (hk : k < l.length) : j ∈ l.take (k + 1) ↔ j ∈ l.take k ∨ j = l[k] := by
  rw [List.take_succ_eq_append_getElem hk, List.mem_append, List.mem_singleton]
/-- Which ids are marked. -/
def ba (p : Nat → Bool) : Array Value := ⟨(List.range 64).map fun j => .bool (p j)⟩
theorem ba_at {w : World} {ib : Nat} {p : Nat → Bool} (h : Has w ib 44 (ba p)) {j : Nat} (hj : j < 64) : w.cell? ⟨ib, j, none⟩ = some (.bool (p j)) := by
  rw [h.cell]; simp [ba, hj]
theorem ba_set (p : Nat → Bool) {j : Nat} (hj : j < 64) : (ba p).setIfInBounds j (.bool true) = ba (fun i => p i || decide (i = j)) := by
  apply Array.ext'
  rw [Array.toList_setIfInBounds]
  show ((List.range 64).map fun i => Value.bool (p i)).set j (.bool true) = (List.range 64).map fun i => Value.bool (p i || decide (i = j))
  refine List.ext_getElem (by simp) fun i h1 h2 => ?_
  rw [List.getElem_set]
  by_cases e : j = i
  · subst e; simp
  · rw [if_neg e]; simp; intro h; exact absurd h.symm e
theorem zero_in (w : World) : (zeroValue 44).run Tryd.prog w = .ok (.agg (ba fun _ => false)) w := by kernel_rfl
def ua (xs : List Int) : Array Value := ⟨xs.map (Value.int .u16)⟩
theorem ua_set (xs : List Int) (j : Nat) (x : Int) : (ua xs).setIfInBounds j (.int .u16 x) = ua (xs.set j x) := by simp [ua, List.map_set]
def z64 : List Int := List.replicate 64 0
theorem make64 (w : World) : (Instr.makeSlice 23 (.int .i64 64) (.int .i64 64)).run Tryd.prog w = .ok (.slice (some ⟨w.heap.size, 0, none⟩) 64 64) (w.alloc (.cells (ua (z64)) 31)) := by kernel_rfl
structure Lst (w : World) (b : Nat) (xs : List Int) : Prop where
  has : Has w b 31 (ua xs)
  len : xs.length = 64
  rng : ∀ v ∈ xs, 0 ≤ v ∧ v ≤ 65535
theorem Lst.at {w : World} {b : Nat} {xs : List Int} (h : Lst w b xs) {j : Nat} (hj : j < 64) : w.cell? ⟨b, j, none⟩ = some (.int .u16 (xs.getD j 0)) ∧ 0 ≤ xs.getD j 0 ∧ xs.getD j 0 ≤ 65535 := by
  have hl := h.len
  have hx : xs[j]? = some (xs[j]'(by omega)) := List.getElem?_eq_getElem (by omega)
  refine ⟨?_, ?_⟩
  · rw [h.has.cell]; simp [ua, hx, List.getD_eq_getElem?_getD]
  · rw [List.getD_eq_getElem?_getD, hx]; exact h.rng _ (List.getElem_mem _)
theorem Lst.put {w : World} {b : Nat} {xs : List Int} (h : Lst w b xs) (j : Nat) {x : Int} (h0 : 0 ≤ x) (h1 : x ≤ 65535) : Lst (w.setCell ⟨b, j, none⟩ (.int .u16 x)) b (xs.set j x) :=
  ⟨by rw [← ua_set]; exact h.has.put j _, by rw [List.length_set]; exact h.len, fun v hv => by
    rcases List.mem_or_eq_of_mem_set hv with h2 | rfl
    · exact h.rng v h2
    · exact ⟨h0, h1⟩⟩
theorem Lst.same {w w' : World} {b : Nat} {xs : List Int} (h : Lst w b xs) (e : w'.heap[b]? = w.heap[b]?) : Lst w' b xs := ⟨h.has.same e, h.len, h.rng⟩
theorem Lst.env {w : World} {b : Nat} {xs : List Int} (h : Lst w b xs) : EnvAt w (some ⟨b, 0, none⟩) xs :=
  env_own h.has xs (fun i v hv => by simp [ua, hv]) h.rng (by rw [h.len]; decide)
theorem rowv_at {w : World} {base : Nat} {e : TypeId} {n : Nat} {v : Value} {xs : List Value} (h : w.ownsRow base e 1 v n xs) {i : Nat} {u : Value} (hu : xs[i]? = some u) :
    ∃ (g cap : Nat), v = .slice (some ⟨g, 0, none⟩) n cap ∧ g < w.heap.size ∧ n ≤ cap ∧ cap ≤ maxLen ∧ w.cell? ⟨g, i, none⟩ = some u := by
  have hl : i < n := by have := (List.getElem?_eq_some_iff.1 hu).1; have := h.1; omega
  rcases h.2 with ⟨_, h0⟩ | ⟨g, cap, cur, rfl, _, hh, hn, hc, hsz, ht⟩
  · omega
  · refine ⟨g, cap, rfl, lt_of_heap hh, hn, hc, ?_⟩
    have hx : Has w g e cur := hh
    rw [hx.cell, ← hu, ← ht, List.getElem?_take_of_lt (by omega)]
    simp
theorem bl_lt {n i j : Nat} (hij : i < j) (hj : j < (bl n).length) : (bl n)[i]'(by omega) < (bl n)[j] := List.pairwise_iff_getElem.1 (bl_rises n) i j (by omega) hj hij
/-- What holds at each round of the second loop. -/
structure L2 (wv wr : World) (l : List Nat) (j : Nat) : Prop where
  b : Below wv.heap.size wv wr
  i : Has wr wv.heap.size 44 (ba fun i => decide (i ∈ l.take j))
/-- What holds at each round of the third loop. -/
structure L3 (wv wr : World) (xb n k : Nat) (xs ys : List Int) : Prop where
  b : Below wv.heap.size wv wr
  i : Has wr wv.heap.size 44 (ba n.testBit)
  x : Lst wr xb xs
  y : Lst wr (xb + 1) ys
  e : ∀ j, j < k → n.testBit j = true → xs.getD j 0 = ys.getD j 0
  ne : wv.heap.size < xb
theorem getD_set_ne {xs : List Int} {i j : Nat} (h : j ≠ i) (v : Int) : (xs.set j v).getD i 0 = xs.getD i 0 := by
  rw [List.getD_eq_getElem?_getD, List.getElem?_set_ne h, ← List.getD_eq_getElem?_getD]
theorem getD_set_eq {xs : List Int} {j : Nat} (h : j < xs.length) (v : Int) : (xs.set j v).getD j 0 = v := by
  rw [List.getD_eq_getElem?_getD, List.getElem?_set_self h]; rfl
section
variable {wv wr : World} {xb n k : Nat} {xs ys : List Int}
theorem L3.setx (h : L3 wv wr xb n k xs ys) {j : Nat} (hj : k ≤ j) {v : Int} (h0 : 0 ≤ v) (h1 : v ≤ 65535) : L3 wv (wr.setCell ⟨xb, j, none⟩ (.int .u16 v)) xb n k (xs.set j v) ys :=
  ⟨h.b.setCell (Nat.le_of_lt h.ne) _, h.i.same (set_other (fun e => by have := h.ne; simp only at e; omega)), h.x.put j h0 h1, h.y.same (set_other (by simp)), fun i hi hb => by rw [getD_set_ne (by omega)]; exact h.e i hi hb, h.ne⟩
theorem L3.sety (h : L3 wv wr xb n k xs ys) {j : Nat} (hj : k ≤ j) {v : Int} (h0 : 0 ≤ v) (h1 : v ≤ 65535) : L3 wv (wr.setCell ⟨xb + 1, j, none⟩ (.int .u16 v)) xb n k xs (ys.set j v) :=
  ⟨h.b.setCell (show wv.heap.size ≤ xb + 1 by have := h.ne; omega) _, h.i.same (set_other (fun e => by have := h.ne; simp only at e; omega)), h.x.same (set_other (by simp)), h.y.put j h0 h1, fun i hi hb => by rw [getD_set_ne (by omega)]; exact h.e i hi hb, h.ne⟩
theorem L3.next (h : L3 wv wr xb n k xs ys) (hk : n.testBit k = true → xs.getD k 0 = ys.getD k 0) : L3 wv wr xb n (k + 1) xs ys :=
  ⟨h.b, h.i, h.x, h.y, fun i hi hb => by
    by_cases e : i = k
    · subst e; exact hk hb
    · exact h.e i (by omega) hb, h.ne⟩
theorem L3.step {W : World} (h : L3 wv wr xb n k xs ys) (hb : Below wr.heap.size wr W) : L3 wv W xb n k xs ys :=
  ⟨h.b.trans (hb.mono h.b.size), h.i.same (hb.block _ h.i.lt), h.x.same (hb.block _ h.x.has.lt), h.y.same (hb.block _ h.y.has.lt), h.e, h.ne⟩
theorem L3.alike {W : World} (h : L3 wv wr xb n k xs ys) (he : W.heap = wr.heap) (h1 : W.os = wr.os) (h2 : W.tape = wr.tape) (h3 : W.output = wr.output) : L3 wv W xb n k xs ys :=
  h.step ⟨h1, h2, h3, by rw [he]; exact Nat.le_refl _, fun k _ => by rw [he]⟩
theorem L3.on {W we : World} (h : L3 wv wr xb n k xs ys) (hb : Below W.heap.size W we) (he : W.heap = wr.heap) (h1 : W.os = wr.os) (h2 : W.tape = wr.tape) (h3 : W.output = wr.output) : L3 wv we xb n k xs ys := (h.alike he h1 h2 h3).step hb
theorem L3.start (h : Below wv.heap.size wv wr) (hi : Has wr wv.heap.size 44 (ba n.testBit)) : L3 wv ((wr.alloc (.cells (ua (z64)) 31)).alloc (.cells (ua (z64)) 31)) wr.heap.size n 0 (z64) (z64) := by
  have r : ∀ v ∈ z64, 0 ≤ v ∧ v ≤ 65535 := fun v hv => by rw [(List.mem_replicate.1 (show v ∈ List.replicate 64 (0 : Int) from hv)).2]; decide
  have z : z64.length = 64 := List.length_replicate
  refine ⟨(h.alloc h.size _).alloc (by have := h.size; simp; omega) _, (hi.same (alloc_other hi.lt)).same (alloc_other (by have := hi.lt; simp; omega)), ⟨(Has.new wr _ _).same (alloc_other (by simp)), z, r⟩, ⟨?_, z, r⟩, fun i hi => absurd hi (Nat.not_lt_zero _), hi.lt⟩
  have := Has.new (wr.alloc (.cells (ua (z64)) 31)) 31 (ua (z64))
  rw [show (wr.alloc (.cells (ua (z64)) 31)).heap.size = wr.heap.size + 1 by simp] at this
  exact this
end

set_option maxHeartbeats 3200000 in
set_option maxRecDepth 100000 in
theorem walk (v0 : Value) (v1 : Value) (a2 : Int) (w : World) (w0 : RowsIn w v0) (w1 : EnvIn w v1) (w2 : (Lit.int .u16 a2).wf = true) (hT : Tab w) (hpos : 0 < w.heap.size) :
    Calls Tryd.prog 4 #[v0, v1, .int .u16 a2] w fun e w' => e = .returned (.bool true) ∧ Below w.heap.size w w' := by
  obtain ⟨A, rs, cap, rfl, hc1, hc2, hRb, hR⟩ := w0
  obtain ⟨EA, env, ecap, rfl, he1, he2, hE⟩ := w1
  have HR := Lib.hid hR
  have HRB := Lib.hid hRb
  have HE0 := Lib.hid hE
  have HT := Lib.hid hT
  obtain ⟨o0, o1⟩ := bounds_u16 w2
  clear hR hE hRb w2
  by_cases hb1 : 100 < rs.length
  · go_enter Tryd.func4, Tryd.ntmps4
    go_wp2_with fail
    refine (awake_any _ hT hpos).mono ?_
    rintro e w1 ⟨rfl, hb⟩
    go_wp2_with fail
    go_ret
    exact ⟨rfl, hb⟩
  by_cases hb2 : 100 < env.length
  · go_enter Tryd.func4, Tryd.ntmps4
    go_wp2_with fail
    refine (awake_any _ hT hpos).mono ?_
    rintro e w1 ⟨rfl, hb⟩
    go_wp2_with fail
    go_ret
    exact ⟨rfl, hb⟩
  have hb1' : rs.length ≤ 100 := by omega
  have hb2' : env.length ≤ 100 := by omega
  clear hb1 hb2
  go_enter Tryd.func4, Tryd.ntmps4
  go_wp2_with fail
  refine (awake_any _ hT hpos).mono ?_
  rintro e w1 ⟨rfl, hb⟩
  have HB1 := Lib.hid hb
  have HR1 := Lib.hid (HR.out.from_ HRB.out hb)
  clear hb hT
  go_wp2_with fail
  refine (new_any _).mono ?_
  rintro e w2 ⟨rfl, ha, hb⟩
  have HC := Lib.hid (Cur.of_new ha hb)
  clear ha hb
  go_wp2_with fail
  refine (build_any w1 w2 _ cap A rs HC.out HR1.out (by omega) hc1 hc2).mono ?_
  rintro e w3 ⟨ns, ms, LA, lcap, rfl, C3, row3, mok, ml, nl⟩
  have HC3 := Lib.hid C3
  have HROW := Lib.hid row3
  have HMOK := Lib.hid mok
  have hml : ms.length ≤ 200 := by omega
  have HB3 : Hid (Below w.heap.size w w3) := HB1.out.trans (C3.below0.mono HB1.out.size)
  clear C3 row3 mok nl ml
  go_wp2_with fail
  go_loopw [10] (fun i wr => ∃ k : Nat, k ≤ ms.length ∧ i = .int .i64 k ∧ Below w3.heap.size w3 wr) (fun i _ => ms.length - (intOf i).toNat)
  case atStart => exact ⟨0, by omega, rfl, Below.refl _ _⟩
  case round =>
    obtain ⟨k, hk, rfl, hrel⟩ := hrel
    have B := Lib.hid hrel
    clear hrel
    by_cases hlt : k < ms.length
    · obtain ⟨m, hm⟩ : ∃ m, ms[k]? = some m := ⟨_, List.getElem?_eq_getElem hlt⟩
      have K := Lib.hid (HMOK.out k m hm)
      obtain ⟨lg, lc, hLA, hlg, hlb, hlc1, hlc2, hc0⟩ := row_md HROW.out hm
      injection hLA with h1 h2 h3
      subst h1; subst h3
      unfold maxLen at hlc2
      have FC0 := Lib.hid (fun (W : World) (b : Below w3.heap.size w3 W) => (b.cell (p := ⟨lg, k * 11, none⟩) hlg).trans (hc0 0 (by decide) : w3.cell? ⟨lg, k * 11, none⟩ = some (.int .i64 m.t)))
      have f0 : wr.cell? ⟨lg, k * 11, none⟩ = some (.int .i64 m.t) := FC0.out wr B.out
      have HVS := Lib.hid (r_vars (HC3.out.below B.out) m.t K.out.t (HT.out.below (HB3.out.trans (B.out.mono HB3.out.size)) hpos))
      have HIB : Hid (Iv ns m.t < 2 ^ 64) := Iv_lt HC3.out.wf _ _ (Int.self_le_toNat _)
      have HDEP := Lib.hid (fun (X Y : List Int) (h : ∀ i : Nat, i < 64 → (Iv ns m.t).testBit i = true → X.getD i 0 = Y.getD i 0) => V_dep HC3.out.wf X Y _ _ (Int.self_le_toNat m.t) h)
      generalize Iv ns m.t = n at HVS HIB HDEP
      clear hm hc0 h2
      go_wp2_with fail
      refine HVS.out.mono ?_
      rintro e wv ⟨VA, vcap, rfl, hown, hb⟩
      have BV := Lib.hid (below_step B.out hb rfl rfl rfl rfl)
      have HOWN := Lib.hid hown
      have hvl : (bl n).length ≤ 64 := bl_length n
      have zi := zero_in
      clear hown hb HVS
      go_wp2_with fail
      go_loopw [13] (fun i wr2 => ∃ j : Nat, j ≤ (bl n).length ∧ i = .int .i64 j ∧ L2 wv wr2 (bl n) j) (fun i _ => (bl n).length - (intOf i).toNat)
      case atStart => exact ⟨0, by omega, rfl, (Below.refl _ _).alloc (Nat.le_refl _) _, by rw [show (fun i => decide (i ∈ (bl n).take 0)) = fun _ => false from funext fun i => by simp]; exact Has.new wv 44 (ba fun _ => false)⟩
      case round =>
        obtain ⟨j, hj, rfl, hrel⟩ := hrel
        have R2 := Lib.hid hrel
        clear hrel
        by_cases hjl : j < (bl n).length
        · obtain ⟨hm1, hm2⟩ := mem_bl.1 (List.getElem_mem hjl)
          obtain ⟨vg, vc, hVA, hvg, hvn, hvc, hcj⟩ := rowv_at HOWN.out (i := j) (u := .int .i64 (((bl n)[j] : Nat) : Int)) (by simp [ints, hjl])
          injection hVA with h1 h2 h3
          subst h1; subst h3
          unfold maxLen at hvc
          have g0 : wr.cell? ⟨vg, j, none⟩ = some (.int .i64 (((bl n)[j] : Nat) : Int)) := (R2.out.b.cell (p := ⟨vg, j, none⟩) hvg).trans hcj
          have hvw : vg < wr.heap.size := Nat.lt_of_lt_of_le hvg R2.out.b.size
          have hib : wv.heap.size < wr.heap.size := R2.out.i.lt
          have hfr : ∀ i, wr.frozen? ⟨wv.heap.size, i, none⟩ = false := R2.out.i.free
          obtain ⟨b0, hcb⟩ : ∃ b, wr.cell? ⟨wv.heap.size, (bl n)[j], none⟩ = some (.bool b) := ⟨_, ba_at R2.out.i hm1⟩
          have HTK := Lib.hid (fun i => mem_take_succ (l := bl n) (k := j) (j := i) hjl)
          clear hcj h2
          have vb0 : (0 : Int) ≤ (((bl n)[j] : Nat) : Int) := by omega
          have vb1 : (((bl n)[j] : Nat) : Int) < 64 := by omega
          have vb2 : decide ((64 : Int) ≤ (((bl n)[j] : Nat) : Int)) = false := by simp <;> omega
          have vb3 : decide ((((bl n)[j] : Nat) : Int) < 0) = false := by simp <;> omega
          have REL : Hid (∀ W : World, W.heap = wr.heap → W.os = wr.os → W.tape = wr.tape → W.output = wr.output → L2 wv (W.setCell ⟨wv.heap.size, (bl n)[j], none⟩ (.bool true)) (bl n) (j + 1)) := fun W e1 e2 e3 e4 =>
            ⟨(below_alike3 R2.out.b e1 e2 e3 e4).setCell (Nat.le_refl _) _, by
              have h1 := (R2.out.i.same (w' := W) (by rw [e1])).put (bl n)[j] (.bool true)
              rw [ba_set _ hm1] at h1
              rw [show (fun i => decide (i ∈ (bl n).take (j + 1))) = fun i => decide (i ∈ (bl n).take j) || decide (i = (bl n)[j]) from funext fun i => by
                rw [Bool.eq_iff_iff]; simp only [Bool.or_eq_true, decide_eq_true_eq]; exact HTK.out i]
              exact h1⟩
          by_cases hj0 : j = 0
          · subst hj0
            clear HTK
            generalize (bl n)[0] = v at *
            go_wp2_with fail
            go_quiet (fail)
            go_wp2_with fail
            go_roundw
            case rel => exact ⟨0 + 1, by omega, by go_num, REL.out _ rfl rfl rfl rfl⟩
            case measure => simp [intOf]; omega
          · obtain ⟨q, rfl⟩ : ∃ q, j = q + 1 := ⟨j - 1, by omega⟩
            have hvv := bl_lt (n := n) (show q < q + 1 by omega) hjl
            have hql : q < (bl n).length := by omega
            obtain ⟨vg', vc', hVB, _, _, _, hcq⟩ := rowv_at HOWN.out (i := q) (u := .int .i64 (((bl n)[q]'hql : Nat) : Int)) (by simp [ints, hql])
            injection hVB with h1 hq2 hq3
            injection h1 with h1
            injection h1 with h1 hq1
            subst h1
            clear hq1 hq2 hq3
            have g1 : wr.cell? ⟨vg, q, none⟩ = some (.int .i64 (((bl n)[q]'hql : Nat) : Int)) := (R2.out.b.cell (p := ⟨vg, q, none⟩) hvg).trans hcq
            have hw1 : IntKind.i64.wrap (((q + 1 : Nat) : Int) - 1) = (q : Int) := by rw [IntWalk.i64_in _ (by omega)]; omega
            have hw2 : IntKind.i64.wrap ((q : Int) + 1 - 1) = (q : Int) := by rw [IntWalk.i64_in _ (by omega)]; omega
            clear HTK hcq hj0
            generalize (bl n)[q + 1] = v at *
            generalize (bl n)[q]'hql = u at *
            have vu : decide ((v : Int) ≤ (u : Int)) = false := by simp <;> omega
            have vu2 : decide (v ≤ u) = false := by simp <;> omega
            go_wp2_with fail
            go_quiet (fail)
            go_wp2_with fail
            go_roundw
            case rel => exact ⟨q + 1 + 1, by omega, by go_num, REL.out _ rfl rfl rfl rfl⟩
            case measure => simp [intOf]; omega
        · obtain rfl : j = (bl n).length := by omega
          have HI2 : Hid (Has wr wv.heap.size 44 (ba n.testBit)) := by
            have h1 := R2.out.i
            rw [List.take_length] at h1
            have e : ba (fun i => decide (i ∈ bl n)) = ba n.testBit := by
              apply Array.ext'
              refine List.ext_getElem (by simp [ba]) fun i h1 h2 => ?_
              have hi : i < 64 := by simpa [ba] using h1
              simp [ba, mem_bl, hi]
            rw [e] at h1
            exact h1
          have BW2 := Lib.hid R2.out.b
          clear R2
          have mk := make64
          go_wp2_with fail
          have HXY := Lib.hid (L3.start BW2.out HI2.out)
          have hxb := HI2.out.lt
          clear mk HI2 BW2
          generalize (wr.alloc (.cells (ua (z64)) 31)).alloc (.cells (ua (z64)) 31) = wx at *
          generalize wr.heap.size = xb at *
          go_loopw [16] (fun i wr => ∃ (j : Nat) (xs ys : List Int), j ≤ 64 ∧ i = .int .i64 j ∧ L3 wv wr xb n j xs ys) (fun i _ => 64 - (intOf i).toNat)
          case atStart => exact ⟨0, _, _, by omega, rfl, HXY.out⟩
          case round =>
            obtain ⟨j, xs, ys, hj, rfl, hrel⟩ := hrel
            have R3 := Lib.hid hrel
            clear hrel
            by_cases hjl : j < 64
            · obtain ⟨gx, gx0, gx1⟩ := R3.out.x.at hjl
              obtain ⟨gy, gy0, gy1⟩ := R3.out.y.at hjl
              have gi := ba_at R3.out.i hjl
              have fx : ∀ i, wr.frozen? ⟨xb, i, none⟩ = false := R3.out.x.has.free
              have fy : ∀ i, wr.frozen? ⟨xb + 1, i, none⟩ = false := R3.out.y.has.free
              have n1 : xb ≠ wv.heap.size := by omega
              have n2 : wv.heap.size ≠ xb := by omega
              have n3 : wv.heap.size ≠ xb + 1 := by omega
              have l1 : xb < wr.heap.size := R3.out.x.has.lt
              have l2 : xb + 1 < wr.heap.size := R3.out.y.has.lt
              have l3 : wv.heap.size < wr.heap.size := R3.out.i.lt
              have HLX := Lib.hid R3.out.x.len
              have HLY := Lib.hid R3.out.y.len
              by_cases hje : j < env.length
              · have BE : Hid (Below w.heap.size w wr) := HB3.out.trans ((BV.out.trans (R3.out.b.mono BV.out.size)).mono HB3.out.size)
                obtain ⟨ad, rfl, had, hce, e0, e1⟩ := (HE0.out.from_ BE.out).at hje
                generalize env.getD j 0 = ev at hce e0 e1
                generalize xs.getD j 0 = xv at gx gx0 gx1
                generalize ys.getD j 0 = yv at gy gy0 gy1
                cases hbt : n.testBit j
                · have HBT := Lib.hid hbt
                  rw [hbt] at gi
                  clear hbt
                  go_wp2_with fail
                  go_roundw
                  case rel => exact ⟨j + 1, _, _, by omega, by go_num, (((((R3.out.setx (Nat.le_refl _) e0 e1).sety (Nat.le_refl _) e0 e1).sety (Nat.le_refl _) (xor_bd ev a2 ⟨e0, e1⟩ ⟨o0, o1⟩).1 (xor_bd ev a2 ⟨e0, e1⟩ ⟨o0, o1⟩).2)).next (fun hb => absurd hb (by rw [HBT.out]; exact Bool.false_ne_true)))⟩
                  case measure => simp [intOf]; omega
                · have HBT := Lib.hid hbt
                  rw [hbt] at gi
                  clear hbt
                  go_wp2_with fail
                  go_roundw
                  case rel => exact ⟨j + 1, _, _, by omega, by go_num, (((R3.out.setx (Nat.le_refl _) e0 e1).sety (Nat.le_refl _) e0 e1).next (fun _ => by rw [getD_set_eq (by rw [HLX.out]; exact hjl), getD_set_eq (by rw [HLY.out]; exact hjl)]))⟩
                  case measure => simp [intOf]; omega
              · have hje' : env.length ≤ j := by omega
                clear hje
                have HXV := Lib.hid (show xs.getD j 0 = xs.getD j 0 from rfl)
                generalize hxv : xs.getD j 0 = xv at gx gx0 gx1 HXV
                have HXV := Lib.hid hxv
                clear hxv
                generalize ys.getD j 0 = yv at gy gy0 gy1
                cases hbt : n.testBit j
                · have HBT := Lib.hid hbt
                  rw [hbt] at gi
                  clear hbt
                  go_wp2_with fail
                  go_roundw
                  case rel => exact ⟨j + 1, _, _, by omega, by go_num, ((((R3.out.sety (Nat.le_refl _) gx0 gx1).sety (Nat.le_refl _) (xor_bd xv a2 ⟨gx0, gx1⟩ ⟨o0, o1⟩).1 (xor_bd xv a2 ⟨gx0, gx1⟩ ⟨o0, o1⟩).2)).next (fun hb => absurd hb (by rw [HBT.out]; exact Bool.false_ne_true)))⟩
                  case measure => simp [intOf]; omega
                · have HBT := Lib.hid hbt
                  rw [hbt] at gi
                  clear hbt
                  go_wp2_with fail
                  go_roundw
                  case rel => exact ⟨j + 1, _, _, by omega, by go_num, ((R3.out.sety (Nat.le_refl _) gx0 gx1).next (fun _ => by rw [getD_set_eq (by rw [HLY.out]; exact hjl)]; exact HXV.out))⟩
                  case measure => simp [intOf]; omega
            · obtain rfl : j = 64 := by omega
              have HEQ := Lib.hid (HDEP.out xs ys fun i hi hb => R3.out.e i hi hb)
              have HCX := fun (W : World) (h : L3 wv W xb n 64 xs ys) => Lib.hid (r_eval ((HC3.out.below BV.out).below h.b) (some ⟨xb, 0, none⟩) 64 xs m.t h.x.env)
              have HCY := fun (W : World) (h : L3 wv W xb n 64 xs ys) => Lib.hid (r_eval ((HC3.out.below BV.out).below h.b) (some ⟨xb + 1, 0, none⟩) 64 ys m.t h.y.env)
              rw [R3.out.x.len] at HCX
              rw [R3.out.y.len] at HCY
              rw [← HEQ.out] at HCY
              generalize V ns xs m.t = r at HCX HCY
              have f0 : wr.cell? ⟨lg, k * 11, none⟩ = some (.int .i64 m.t) := FC0.out wr (BV.out.trans (R3.out.b.mono BV.out.size))
              have hlw : lg < wr.heap.size := Nat.lt_of_lt_of_le hlg (Nat.le_trans BV.out.size R3.out.b.size)
              have HC := fun (W : World) (b : Nat) (hb : b = xb ∨ b = xb + 1) (h : L3 wv W xb n 64 xs ys) => Lib.hid (show Calls Tryd.prog 14 #[ptr w1.heap.size, .int .i64 m.t, .slice (some ⟨b, 0, none⟩) 64 64] W (fun e w' => e = .returned (.int .u16 r) ∧ Below W.heap.size W w') by
                rcases hb with rfl | rfl
                · exact (HCX W h).out
                · exact (HCY W h).out)
              clear HEQ HCX HCY
              go_wp2_with fail
              go_region_held3 (fun w' => w'.cell? ⟨lg, k * 11, none⟩ = some (.int .i64 m.t)) (go_keep) ((go_at_call 14; refine (HC _ _ (by first | exact .inl rfl | exact .inr rfl) (by exact R3.out.alike rfl rfl rfl rfl)).out.mono ?_; rintro e we ⟨rfl, hb⟩; have R3 := Lib.hid (R3.out.on hb rfl rfl rfl rfl); have f0 : we.cell? ⟨lg, k * 11, none⟩ = some (.int .i64 m.t) := FC0.out we (BV.out.trans (R3.out.b.mono BV.out.size)); clear hb))
              go_wp2_with fail
              go_roundw
              case rel => exact ⟨k + 1, by omega, by go_num, BV.out.trans (below_alike3 (R3.out.b.mono BV.out.size) rfl rfl rfl rfl)⟩
              case measure => simp [intOf]; omega
    · obtain rfl : k = ms.length := by omega
      go_wp2
      go_ret
      exact ⟨rfl, HB3.out.trans (B.out.mono HB3.out.size)⟩

set_option maxRecDepth 100000 in
theorem lifted (os : Os) (started : os.Started) (H : Type) (enc : TypeId × Value → H) :
    ReturnsInHanded {} Tryd.checked os 4 .any (fun w args => (Rows.termVarsSpec.pre enc Tryd.prog Tryd.f4 [] false w args ∧ laidMetH Tryd.prog laidTab w) ∧ sizedMet enc Tryd.prog Tryd.f4 (OpenSpec.ofChange Rows.termVarsSpec) false w args)
      (Rows.termVarsSpec.post enc Tryd.prog Tryd.f4 false true false false) := by
  refine returnsInHanded_of_change_and (C := Tryd.checked) (X := fun w _ => laidMetH Tryd.prog laidTab w) (fun _ _ _ hh h => h.of_heap hh) ownDoor started (by kernel_rfl) Tryd.func4
    (ChangeSpec.witness_shaped (enc := enc) (C := Tryd.checked) (os := os) (X := fun w _ => laidMetH Tryd.prog laidTab w) false (World.doorLaid Tryd.prog 400 os) #[.slice none 0 0, .slice none 0 0, .int .u16 0] 8 rfl (World.shaped_of_RefB (by kernel_rfl) (by kernel_rfl)) (by kernel_rfl) (by kernel_rfl) (by kernel_rfl) (door_met os _)) ?_
  intro W base args ds gs before hval0 hW _ hsz hL _
  have hval : ∀ (j : Nat) t v, Tryd.f4.params[j]? = some t → args[j]? = some v → Value.okWide Tryd.prog W .any base t v := hval0
  have hW' := hW
  obtain ⟨p, q, hA0, hV, rfl, hfz, hnd⟩ := hW
  have hA : DataW.TrodAll enc Tryd.prog W 0 (fun _ => true) true Tryd.f4.params.toList args.toList ds p := hA0
  rw [Tryd.params4] at hA hval
  obtain ⟨v0, vs0, d0, ds0, p0, q0, hargs, rfl, rfl, h0, r0⟩ := trodAll_cons hA
  obtain ⟨v1, vs1, d1, ds1, p1, q1, rfl, rfl, rfl, h1, r1⟩ := trodAll_cons r0
  obtain ⟨v2, vs2, d2, ds2, p2, q2, rfl, rfl, rfl, h2, r2⟩ := trodAll_cons r1
  obtain ⟨rfl, rfl, rfl⟩ := trodAll_nil r2
  obtain rfl : args = #[v0, v1, v2] := by cases args; simp_all
  obtain ⟨rfl, rfl⟩ := trodVars_none hV
  have w0 : RowsIn W v0 := rows_open (hval 0 22 v0 rfl rfl) h0
  have w1 : EnvIn W v1 := env_open Tryd.underlying23 Tryd.underlying31 cellsU16 (hval 1 23 v1 rfl rfl) h1
  obtain ⟨a2, rfl, rfl, rfl, w2⟩ := open_int Tryd.underlying31 (hval 2 31 v2 rfl rfl) h2
  obtain ⟨hT, hpos⟩ := of_laid hL
  clear hA0 hval0
  simp only [List.append_nil] at hW'
  have hlt := hW'.lt
  refine (walk v0 v1 a2 W w0 w1 w2 hT hpos).mono fun e W' ⟨he, hg⟩ => ?_
  subst he
  exact ⟨_, rfl, post_kept hW' hg (fun _ _ _ => (trodAll_cons_mk (shut_bool Tryd.underlying4 _) trodAll_mk0)) (fun sp hsp => (trodAll_cons_mk (WideElems.Trod_stays laidOut (by kernel_rfl) (of_decide_eq_true (by kernel_rfl)) h0 (fun x hx => hg.same (hlt x (by simp; first | exact .inl hx | exact .inr hx | exact hx | exact .inr (.inl hx)))) (fun x hx => hsp x (by simp; first | exact .inl hx | exact .inr hx | exact hx | exact .inr (.inl hx)))) (trodAll_cons_mk (WideElems.Trod_stays laidOut (by kernel_rfl) (of_decide_eq_true (by kernel_rfl)) h1 (fun x hx => hg.same (hlt x (by simp; first | exact .inl hx | exact .inr hx | exact hx | exact .inr (.inl hx)))) (fun x hx => hsp x (by simp; first | exact .inl hx | exact .inr hx | exact hx | exact .inr (.inl hx)))) (trodAll_cons_mk (shut_int Tryd.underlying31 w2) trodAll_mk0)))) (fun _ _ => rfl) (by simp)
    (ok_one (by kernel_rfl) rfl (okWide_bool_mk Tryd.underlying4 _))⟩

theorem over : Rows.TermVarsSaid :=
  OpenClaim.holds_of_wide 4 Tryd.f4 rfl rfl rfl rfl rfl rfl rfl ⟨rfl, rfl, rfl, rfl, rfl⟩ rfl rfl rfl rfl rfl (by kernel_rfl) Tryd.func4 (by kernel_rfl)
    (of_decide_eq_true (by kernel_rfl)) (by unfold Func.isWrapper; first | (rw [if_pos (by decide +kernel)]; kernel_rfl) | (rw [if_neg (by decide +kernel)]; exact ⟨rfl, rfl⟩))
    (fun os started H enc _ => lifted os started H enc)

theorem proved : Rows.TermVarsCardSaid :=
  Claim7.holds_tied_plain_at .later [] [.data] true _ false
    over (fun _ h => by cases h) (by kernel_rfl) (fun _ h => by cases h) termVars_row_tie rfl ⟨rfl, rfl⟩ (by kernel_rfl) rfl
    (fun f fn hf hfn => by
      obtain rfl : f = 4 := Option.some.inj ((show Tryd.prog.funcNamed "crossroads/crossroadslaw2.TermVars" = some 4 by kernel_rfl).symm.trans hf) |>.symm
      obtain rfl : fn = Tryd.f4 := (Option.some.inj (Tryd.func4.symm.trans hfn)).symm
      exact ⟨by kernel_rfl, fun j t ht => by
        rw [Tryd.params4] at ht
        have hm : t ∈ ([22, 23, 31] : List TypeId) := by simpa using Array.mem_of_getElem? ht
        have hall : (([22, 23, 31] : List TypeId).all fun u => !Tryd.prog.wantsStandIn u) = true := by kernel_rfl
        exact (show Tryd.prog.wantsStandIn t = false by simpa using List.all_eq_true.1 hall t hm)⟩)
    (by kernel_rfl)
#print axioms proved
end Go.Proofs.YtchbdnifcckloaaDoor.termVars
