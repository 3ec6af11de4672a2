/-
  Parts of the proof, joined: DpllCm2, DpllNd, DpllNd2, DpllSh, DpllDf.
-/
import Derived.Test.YtpmdnbdmocdngaaGreatMh17
import Derived.Test.YtpmdnbdmocdngaaGreatMh22
import Derived.Test.YtpmdnbdmocdngaaGreatMh15
import Derived.Test.YtpmdnbdmocdngaaGreatMh11
import Derived.Test.YtpmdnbdmocdngaaGreatMh16
import Derived.Test.YtpmdnbdmocdngaaGreatMh19
import Derived.Lib.SliceRun

namespace Go.Proofs.YtpmdnbdmocdngaaGreat
open Go.RowKit
set_option linter.unusedVariables false
set_option linter.unusedSimpArgs false

/-- What a clash teaches. -/
structure Les (n : Nat) (Mo : (Nat → Bool) → Prop) (d : Sd) (r : Nt) (x i : Nat) (tl : List Nat) : Prop where
  ls : r.ls = oth x :: tl
  at_ : d.tr[i]? = some x
  lv : lev d.ma i = d.ma.length
  sx : sn r x = true
  low : ∀ q ∈ tl, sn r q = true ∧ ∃ j, d.tr[j]? = some (oth q) ∧ 1 ≤ lev d.ma j ∧ lev d.ma j < d.ma.length
  tnd : (tl.map (· / 2)).Nodup
  full : ∀ j q, d.tr[j]? = some q → sn r q = true → lev d.ma j < d.ma.length → oth q ∈ tl
  imp : ∀ m, Mo m → ∃ q ∈ r.ls, lt_ m q = true
  len : r.se.length = n
  nd : r.nu.Nodup
  nu : ∀ v, v ∈ r.nu ↔ r.se.getD v false = true
theorem cntL_pos {d : Sd} {se : List Bool} {l : List Nat} (h : 0 < cntL d se l) : ∃ q ∈ l, se.getD (q / 2) false = true ∧ dpt d.dp q = d.ma.length := by
  obtain ⟨q, hq⟩ := List.exists_mem_of_length_pos h
  obtain ⟨h1, h2⟩ := List.mem_filter.1 hq
  simp only [Bool.and_eq_true, decide_eq_true_eq] at h2
  exact ⟨q, h1, h2⟩
theorem cntL_mem {d : Sd} {se : List Bool} {l : List Nat} {q : Nat} (hq : q ∈ l) (h1 : se.getD (q / 2) false = true) (h2 : dpt d.dp q = d.ma.length) : 0 < cntL d se l :=
  List.length_pos_of_mem (List.mem_filter.2 ⟨hq, by simp only [Bool.and_eq_true, decide_eq_true_eq]; exact ⟨h1, h2⟩⟩)
theorem take_snoc {l : List Nat} {i x : Nat} (h : l[i]? = some x) : l.take (i + 1) = l.take i ++ [x] := by
  obtain ⟨h1, h2⟩ := List.getElem?_eq_some_iff.1 h
  rw [List.take_succ_eq_append_getElem h1, h2]
theorem getD_lt {l : List Bool} {v : Nat} (h : l.getD v false = true) : v < l.length := by
  rw [List.getD_eq_getElem?_getD] at h
  cases e : l[v]? with
  | none => rw [e] at h; cases h
  | some b => exact (List.getElem?_eq_some_iff.1 e).1
section
variable {n : Nat} {K0 : Nat → Prop} {Mo : (Nat → Bool) → Prop} {d : Sd} {i c0 : Nat} {s : Nt}
theorem gat_exists (v : Iv n K0 Mo d) : ∀ (i : Nat) (s : Nt), i ≤ d.tr.length → Gn n d i 0 s → Im Mo d i s → 1 ≤ s.last → ∃ r x i' tl, Gat d n i s r ∧ Les n Mo d r x i' tl
  | 0, s, _, g, _, h1 => by
    have := g.cnt
    simp [cntL] at this
    omega
  | i + 1, s, hi, g, im, h1 => by
    obtain ⟨x, hx⟩ : ∃ x, d.tr[i]? = some x := ⟨_, List.getElem?_eq_getElem (by omega)⟩
    have hcnt := g.cnt
    rw [take_snoc hx, cntL_snoc] at hcnt
    have hdx := v.T.dat hx
    have hLn := v.L.tr
    have hn := v.L.nb
    cases hs : sn s x with
    | false =>
      have hns : ¬ (s.se.getD (x / 2) false = true ∧ dpt d.dp x = d.ma.length) := fun h => by
        have : sn s x = true := h.1
        rw [hs] at this; cases this
      rw [if_neg hns] at hcnt
      obtain ⟨r, x', i', tl, h, h'⟩ := gat_exists v i s (by omega) ⟨g.len, g.nd, g.nu, g.at_, g.tl, g.tnd, g.full, by omega, g.pos⟩ (fun m hm => by
        rcases im m hm with h | ⟨j, q, a, b, e, f⟩
        · exact .inl h
        · refine .inr ⟨j, q, ?_, b, e, f⟩
          by_cases ej : j = i
          · subst ej
            rw [hx] at b; injection b with b; subst b
            rw [hs] at e; cases e
          · omega) h1
      exact ⟨r, x', i', tl, .skip hx hs h, h'⟩
    | true =>
      have hse : s.se.getD (x / 2) false = true := hs
      have hlv : lev d.ma i = d.ma.length := by
        have hp : 0 < cntL d s.se (d.tr.take (i + 1)) := by rw [g.cnt]; omega
        obtain ⟨q, hq, _, hq2⟩ := cntL_pos hp
        obtain ⟨j, hj⟩ := List.getElem?_of_mem hq
        obtain ⟨hj1, hj2⟩ := take_at hj
        have a := v.T.dat hj2
        have b := lev_mono d.ma (show j ≤ i by omega)
        have c := lev_le d.ma i
        omega
      rw [if_pos ⟨hse, by omega⟩] at hcnt
      obtain ⟨z, tl, hz⟩ : ∃ z tl, s.ls = z :: tl := by
        cases hl : s.ls with
        | nil => have := g.pos; rw [hl] at this; cases this
        | cons z l => exact ⟨z, l, rfl⟩
      by_cases hlast : s.last = 1
      · have hc0 : cntL d s.se (d.tr.take i) = 0 := by omega
        refine ⟨{ s with ls := s.ls.set 0 (oth x) }, x, i, tl, .done hx hs hlast g.pos, by rw [hz]; rfl, hx, hlv, hs, fun q hq => ?_, ?_, fun j q hj hq hl => ?_, fun m hm => ?_, g.len, g.nd, g.nu⟩
        · have := g.tl q (by rw [hz]; exact hq)
          exact this
        · have := g.tnd; rw [hz] at this; exact this
        · have := g.full j q hj hq hl; rw [hz] at this; exact this
        · show ∃ q ∈ s.ls.set 0 (oth x), lt_ m q = true
          rw [hz]
          rcases im m hm with ⟨q, hq, ht⟩ | ⟨j, q, a, b, e, f, ht⟩
          · rw [hz] at hq
            exact ⟨q, List.mem_cons_of_mem _ hq, ht⟩
          · by_cases ej : j = i
            · subst ej
              rw [hx] at b; injection b with b; subst b
              exact ⟨oth x, List.mem_cons_self .., ht⟩
            · exfalso
              have := cntL_mem (d := d) (se := s.se) (l := d.tr.take i) (q := q) (List.mem_of_getElem? (i := j) (by rw [List.getElem?_take_of_lt (by omega)]; exact b)) e (by rw [v.T.dat b]; exact f)
              omega
      · have hc1 : cntL d s.se (d.tr.take i) = s.last - 1 := by omega
        have hlev1 : 1 ≤ lev d.ma i := by
          obtain ⟨j, q, a, b, e⟩ := g.at_ (x / 2) hse
          obtain ⟨ej, _⟩ := v.T.uniq a hx b
          subst ej; exact e
        rcases v.Y i x hx hlev1 with ⟨hm, _⟩ | ⟨_, k, c, hw, hk, hxc, hoth⟩
        · exfalso
          obtain ⟨q, hq, _, hq2⟩ := cntL_pos (show 0 < cntL d s.se (d.tr.take i) by omega)
          obtain ⟨j, hj⟩ := List.getElem?_of_mem hq
          obtain ⟨hj1, hj2⟩ := take_at hj
          have a := v.T.dat hj2
          have := lev_mark hm hj1
          omega
        · have g0 : Gn n d i (s.last - 1) { s with last := 0 } := ⟨g.len, g.nd, g.nu, g.at_, g.tl, g.tnd, g.full, by show cntL d s.se (d.tr.take i) = _; rw [hc1]; rfl, g.pos⟩
          have hx1 : ∀ y ∈ c.ls, sn ({ s with last := 0 } : Nt) y = true ∨ ∃ j, j < i ∧ d.tr[j]? = some (oth y) := fun y hy => by
            by_cases e : y = x
            · subst e; exact .inl hs
            · exact .inr (hoth y hy e)
          obtain ⟨g1, see, mono, e1, he1⟩ := Gn.all v.T c.ls _ g0 hx1
          have ht1 : (Nt.all d.dp d.ma.length { s with last := 0 } c.ls).ls.tail = tl ++ e1 := by rw [he1]; show (s.ls ++ e1).tail = _; rw [hz]; rfl
          have gm : Gn n d i 0 (s.more d c) := ⟨g1.len, g1.nd, g1.nu, g1.at_, g1.tl, g1.tnd, g1.full, by
            have := g1.cnt
            show cntL d (Nt.all d.dp d.ma.length { s with last := 0 } c.ls).se (d.tr.take i) = 0 + (s.last + (Nt.all d.dp d.ma.length { s with last := 0 } c.ls).last - 1)
            omega, g1.pos⟩
          have im2 : Im Mo d i (s.more d c) := fun m hm => by
            rcases im m hm with ⟨q, hq, ht⟩ | ⟨j, q, a, b, e, f, ht⟩
            · refine .inl ⟨q, ?_, ht⟩
              show q ∈ (Nt.all d.dp d.ma.length { s with last := 0 } c.ls).ls.tail
              rw [ht1]
              rw [hz] at hq
              exact List.mem_append_left _ hq
            · by_cases ej : j = i
              · subst ej
                rw [hx] at b; injection b with b; subst b
                obtain ⟨y, hy, hyt⟩ := (v.S m hm).1 k c hk
                have hne : y ≠ x := fun e => by
                  subst e
                  rw [lt_oth, hyt] at ht; cases ht
                exact im_all v hk rfl g1 see hm hy hyt (hoth y hy hne)
              · exact .inr ⟨j, q, by omega, b, mono q e, f, ht⟩
          have hlm : 1 ≤ (s.more d c).last := by
            show 1 ≤ s.last + (Nt.all d.dp d.ma.length { s with last := 0 } c.ls).last - 1
            omega
          obtain ⟨r, x', i', tl', h, h'⟩ := gat_exists v i _ (by omega) gm im2 hlm
          have hcl : s.last ≤ n := by
            have := List.length_filter_le (fun q => s.se.getD (q / 2) false && decide (dpt d.dp q = d.ma.length)) (d.tr.take (i + 1))
            have h2 := g.cnt
            unfold cntL at h2
            rw [List.length_take] at this
            omega
          have hnu : s.nu.length ≤ n := nodup_le n _ g.nd fun u hu => by
            have := getD_lt ((g.nu u).1 hu)
            rw [g.len] at this; exact this
          have hls : s.ls.length ≤ n + 1 := by
            rw [hz]
            have := nodup_le n _ g.tnd fun u hu => by
              rw [hz] at hu
              obtain ⟨q, hq, e⟩ := List.mem_map.1 hu
              have := getD_lt (g.tl q (by rw [hz]; exact hq)).1
              rw [g.len] at this
              have e : q / 2 = u := e
              omega
            rw [hz] at this
            simp at this ⊢
            exact this
          have hkb := (List.getElem?_eq_some_iff.1 hk).1
          have hb := v.hb
          exact ⟨r, x', i', tl', .note hx hs (by omega) (by omega) hw (by omega) hk (v.cgood hk) hnu (by omega) h, h'⟩
/-- From a clash on. -/
theorem clash_gat (v : Iv n K0 Mo d) {k : Nat} {c : Cl} {gone : Nat} (cf : Cf n d k c gone) (hL : 1 ≤ d.ma.length) (hse : ∀ u, d.se.getD u false = false) (hnu : d.nu = []) : ∃ r x i tl, Gat d n d.tr.length (Nt.all d.dp d.ma.length ⟨d.se, d.nu, [0], 0⟩ c.ls) r ∧ Les n Mo d r x i tl := by
  have c0 : cntL d d.se (d.tr.take d.tr.length) = 0 := by
    refine Nat.eq_zero_of_not_pos fun h => ?_
    obtain ⟨q, _, h, _⟩ := cntL_pos h
    rw [hse] at h; cases h
  have g0 : Gn n d d.tr.length 0 ⟨d.se, d.nu, [0], 0⟩ := by
    refine ⟨v.L.se, ?_, fun u => ?_, fun u hu => ?_, fun q hq => ?_, List.nodup_nil, fun j q _ hs _ => ?_, c0, Nat.one_pos⟩
    · show d.nu.Nodup
      rw [hnu]; exact List.nodup_nil
    · show u ∈ d.nu ↔ d.se.getD u false = true
      rw [hnu, hse]; simp
    · have hu : d.se.getD u false = true := hu
      rw [hse] at hu; cases hu
    · cases hq
    · have hs : d.se.getD (q / 2) false = true := hs
      rw [hse] at hs; cases hs
  have hx1 : ∀ y ∈ c.ls, ∃ j, j < d.tr.length ∧ d.tr[j]? = some (oth y) := fun y hy => by
    obtain ⟨hyn, _, a2⟩ := v.C.lt k c cf.at_ y hy
    have e := v.T.w.opp y hyn
    rw [cf.all y hy] at e
    rcases (v.T.one (oth y) (oth_lt hyn)).1 (by omega) with h | h
    · obtain ⟨j, hj⟩ := List.getElem?_of_mem h
      exact ⟨j, (List.getElem?_eq_some_iff.1 hj).1, hj⟩
    · exact absurd h a2
  obtain ⟨g1, see, mono, _⟩ := Gn.all v.T c.ls _ g0 (fun y hy => .inr (hx1 y hy))
  refine gat_exists v _ _ (Nat.le_refl _) g1 (fun m hm => ?_) ?_
  · obtain ⟨y, hy, hyt⟩ := (v.S m hm).1 k c cf.at_
    exact im_all v cf.at_ rfl g1 see hm hy hyt (hx1 y hy)
  · obtain ⟨j, hj, _, hm⟩ := cf.pos
    have hlv : lev d.ma j = d.ma.length := lev_all hm
    have hd : dpt d.dp gone = d.ma.length := by rw [← dpt_oth, v.T.dat hj]; exact hlv
    have hsn := (see gone cf.mem).resolve_left (by omega)
    have := cntL_mem (d := d) (se := (Nt.all d.dp d.ma.length ⟨d.se, d.nu, [0], 0⟩ c.ls).se) (l := d.tr.take d.tr.length) (q := oth gone) (by rw [List.take_length]; exact List.mem_of_getElem? hj) (by rw [oth_half]; exact hsn) (by rw [dpt_oth]; exact hd)
    have h2 := g1.cnt
    omega
end
end Go.Proofs.YtpmdnbdmocdngaaGreat

namespace Go.Proofs.YtpmdnbdmocdngaaGreat
open Go.ChangeShapes Go.WideShapes Go.ChangeAt Go.RowKit
set_option linter.unusedVariables false
set_option linter.unusedSimpArgs false

/-- A literal that is not noted, and not known for good. -/
def ndp (d : Sd) (q : Nat) : Bool := !(d.se.getD (q / 2) false) && decide (0 < dpt d.dp q)
theorem anyN_take {p : Nat → Bool} {c : List Nat} {k : Nat} {l : Nat} (h : c[k]? = some l) : (c.take (k + 1)).any p = ((c.take k).any p || p l) := by
  have hk := (List.getElem?_eq_some_iff.1 h).1
  rw [List.take_succ_eq_append_getElem hk, List.any_append, (List.getElem?_eq_some_iff.1 h).2]; simp
section
variable {B : Nat} {τ : Nat → Nat} {w : World} {p n : Nat} {d : Sd}
set_option maxHeartbeats 1600000 in
theorem ndclos_any (h : Sr B τ w p n d) (L : Len n d) {b q : Nat} (hb : w.cell? ⟨b, 0, none⟩ = some (ptr p)) (hq : q < 2 * n) :
    Calls Tryz.prog 206 #[.int .i32 (q : Int), .pointer (some ⟨b, 0, none⟩)] w fun e w' => e = .returned (.bool (ndp d q)) ∧ Below w.heap.size w w' := by
  have hn := L.nb
  have CN := Lib.hid (fun W => lnum_any q W (by omega))
  obtain ⟨v, hv⟩ : ∃ v, q / 2 = v := ⟨_, rfl⟩
  have hvn : v < n := by omega
  obtain ⟨g13, c13, a13⟩ := h.at_se (by rw [L.se]; omega)
  obtain ⟨sv, hsv⟩ : ∃ sv, d.se[v]? = some sv := ⟨_, List.getElem?_eq_getElem (by rw [L.se]; omega)⟩
  obtain ⟨g6, c6, a6⟩ := h.at_dp (by rw [L.dp]; omega)
  obtain ⟨y, hy⟩ : ∃ y, d.dp[v]? = some y := ⟨_, List.getElem?_eq_getElem (by rw [L.dp]; omega)⟩
  have HG := Lib.hid (show ndp d q = (!sv && decide (0 < y)) by
    unfold ndp dpt; rw [hv, List.getD_eq_getElem?_getD, List.getD_eq_getElem?_getD, hsv, hy]; rfl)
  have f13 := a13.len_se.1
  have l13 := a13.len_se.2
  have k13 := a13.cap
  have x13 := a13.se hsv
  have z13 := a13.lt
  have f6 := a6.len_dp.1
  have l6 := a6.len_dp.2
  have k6 := a6.cap
  have x6 := a6.dp hy
  have z6 := a6.lt
  have zp := h.plt
  have zb := lt_of_cell hb
  have e13 : v < d.se.length := by rw [L.se]; omega
  have e6 : v < d.dp.length := by rw [L.dp]; omega
  have v0 : (0 : Int) ≤ (v : Int) := by omega
  have v13 : (v : Int) < (d.se.length : Int) := by omega
  have v6 : (v : Int) < (d.dp.length : Int) := by omega
  rw [hv] at CN
  rw [HG.out]
  clear a13 a6 hsv hy hv h L HG
  cases sv with
  | true =>
    go_enter Tryz.func206, Tryz.ntmps206
    go_wp2_with fail
    go_quiet ((go_at_call 90; with_reducible exact calm_one CN.out))
    go_wp2_with fail
    go_ret
    exact ⟨rfl, Below.draws (Below.refl _ _) _⟩
  | false =>
    by_cases hy0 : y = 0
    · subst hy0
      go_enter Tryz.func206, Tryz.ntmps206
      go_wp2_with fail
      go_quiet ((go_at_call 90; with_reducible exact calm_one CN.out))
      go_wp2_with fail
      go_ret
      exact ⟨rfl, Below.draws (Below.refl _ _) _⟩
    · have hy1 : (0 : Int) < (y : Int) := by omega
      have HE : Hid ((!false && decide (0 < y)) = true) := by show (!false && decide (0 < y)) = true; rw [decide_eq_true (by omega)]; rfl
      rw [HE.out]
      go_enter Tryz.func206, Tryz.ntmps206
      go_wp2_with fail
      go_quiet ((go_at_call 90; with_reducible exact calm_one CN.out))
      go_wp2_with fail
      go_ret
      refine ⟨?_, Below.draws (Below.refl _ _) _⟩
      show Ending.returned (Value.bool (decide (0 < y))) = _
      rw [decide_eq_true (by omega)]
def NiPost (r : Bool) (w : World) (e : Ending) (w' : World) : Prop := ∃ k : Int, e = .returned (.int .i64 k) ∧ decide (0 ≤ k) = r ∧ Below w.heap.size w w'
set_option maxHeartbeats 1600000 in
theorem ndindex_any (h : Sr B τ w p n d) (L : Len n d) {b : Nat} (hb : w.cell? ⟨b, 0, none⟩ = some (ptr p)) {gl cap : Nat} {ls : List Nat} (hc : ∀ (i q : Nat), ls[i]? = some q → w.cell? ⟨gl, i, none⟩ = some (.int .i32 (q : Int))) (hgl : gl < w.heap.size) (hle : ls.length ≤ cap) (hmx : cap ≤ 9223372036854775807) (hls : ∀ l ∈ ls, l < 2 * n) :
    Calls Tryz.prog 204 #[.slice (some ⟨gl, 0, none⟩) ls.length cap, .func (.func 206) #[] #[.pointer (some ⟨b, 0, none⟩)]] w (NiPost (ls.any (ndp d)) w) := by
  have HC := Lib.hid hc
  have HLS := Lib.hid hls
  have K := Lib.hid (fun (W : World) (k : Below w.heap.size w W) (q : Nat) (hq : q < 2 * n) => ndclos_any (h.below k) L (b := b) ((k.cell (p := ⟨b, 0, none⟩) (lt_of_cell hb)).trans hb) hq)
  clear h L hc hls hb
  go_enter Tryz.func204, Tryz.ntmps204
  go_wp2_with fail
  go_loopw [8] (fun iv wr => ∃ k : Nat, k ≤ ls.length ∧ iv = .int .i64 k ∧ Hid ((ls.take k).any (ndp d) = false) ∧ Hid (Below w.heap.size w wr)) (fun iv _ => ls.length - (intOf iv).toNat)
  case atStart => exact ⟨0, by omega, rfl, by simp [Hid], Below.refl _ _⟩
  case round =>
    obtain ⟨k, hk, rfl, H, HB⟩ := hrel
    by_cases hlt : k < ls.length
    · obtain ⟨q, hz⟩ : ∃ q, ls[k]? = some q := ⟨_, List.getElem?_eq_getElem hlt⟩
      have xk : wr.cell? ⟨gl, k, none⟩ = some (.int .i32 (q : Int)) := (HB.out.cell (p := ⟨gl, k, none⟩) hgl).trans (HC.out k q hz)
      have zl : gl < wr.heap.size := Nat.lt_of_lt_of_le hgl HB.out.size
      have cl := K.out wr HB.out q (HLS.out q (List.mem_of_getElem? hz))
      cases hr : ndp d q with
      | true =>
        have HE := Lib.hid (show ls.any (ndp d) = true from List.any_eq_true.2 ⟨q, List.mem_of_getElem? hz, hr⟩)
        rw [hr] at cl
        clear hz hr
        go_wp2_with (go_at_call 206; ((with_reducible refine cl.mono ?_); rintro e w' ⟨rfl, hw⟩; have HW := Lib.hid (HB.out.trans (hw.mono HB.out.size)); clear hw))
        go_ret
        exact ⟨_, rfl, by rw [HE.out]; simp, HW.out⟩
      | false =>
        have HE := Lib.hid (show (ls.take (k + 1)).any (ndp d) = false by rw [anyN_take hz, H.out, hr]; rfl)
        rw [hr] at cl
        clear hz hr
        go_wp2_with (go_at_call 206; ((with_reducible refine cl.mono ?_); rintro e w' ⟨rfl, hw⟩; have HW := Lib.hid (HB.out.trans (hw.mono HB.out.size)); clear hw))
        go_roundw
        case rel => exact ⟨k + 1, by omega, by go_num, HE.out, HW.out⟩
        case measure => simp [intOf]; omega
    · obtain rfl : k = ls.length := by omega
      have HE := Lib.hid (show ls.any (ndp d) = false by have := H.out; rw [List.take_length] at this; exact this)
      clear H
      go_wp2_with fail
      go_ret
      exact ⟨_, rfl, by rw [HE.out]; rfl, HB.out⟩
theorem ndcontains_any (h : Sr B τ w p n d) (L : Len n d) {b : Nat} (hb : w.cell? ⟨b, 0, none⟩ = some (ptr p)) {gl cap : Nat} {ls : List Nat} (hc : ∀ (i q : Nat), ls[i]? = some q → w.cell? ⟨gl, i, none⟩ = some (.int .i32 (q : Int))) (hgl : gl < w.heap.size) (hle : ls.length ≤ cap) (hmx : cap ≤ 9223372036854775807) (hls : ∀ l ∈ ls, l < 2 * n) :
    Calls Tryz.prog 205 #[.slice (some ⟨gl, 0, none⟩) ls.length cap, .func (.func 206) #[] #[.pointer (some ⟨b, 0, none⟩)]] w fun e w' => e = .returned (.bool (ls.any (ndp d))) ∧ Below w.heap.size w w' := by
  have K := ndindex_any h L hb hc hgl hle hmx hls
  clear h L hc hls hb
  generalize ls.any (ndp d) = r at K ⊢
  go_enter Tryz.func205, Tryz.ntmps205
  go_wp2_with (go_at_call 204; ((with_reducible refine K.mono ?_); rintro e w' ⟨k, rfl, hr, hw⟩))
  go_ret
  exact ⟨by rw [← hr]; rfl, hw⟩
end
end Go.Proofs.YtpmdnbdmocdngaaGreat

namespace Go.Proofs.YtpmdnbdmocdngaaGreat
open Go.ChangeShapes Go.WideShapes Go.ChangeAt Go.RowKit
set_option linter.unusedVariables false
set_option linter.unusedSimpArgs false

/-- Whether a literal is needless. -/
def ndl (d : Sd) (q : Nat) : Bool := match d.wy[q / 2]? with
  | none => false
  | some z => if z < 0 then false else match d.cls[z.toNat]? with
    | none => false
    | some c => !(c.ls.any (ndp d))
section
variable {B : Nat} {τ : Nat → Nat} {w : World} {p n : Nat} {d : Sd}
set_option maxHeartbeats 1600000 in
theorem needless_any (h : Sr B τ w p n d) (L : Len n d) {q : Nat} (hq : q < 2 * n) {z : Int} (hz : d.wy[q / 2]? = some z) (hz2 : z = -1 ∨ ∃ (k : Nat) (c : Cl), z = (k : Int) ∧ k < 2147483648 ∧ d.cls[k]? = some c ∧ CGood n c) :
    Calls Tryz.prog 172 #[ptr p, .int .i32 (q : Int)] w fun e w' => e = .returned (.bool (ndl d q)) ∧ Below w.heap.size w w' := by
  have hn := L.nb
  have CN := Lib.hid (fun W => lnum_any q W (by omega))
  obtain ⟨v, hv⟩ : ∃ v, q / 2 = v := ⟨_, rfl⟩
  have hvn : v < n := by omega
  have b1 : Below w.heap.size w (w.alloc (.cells #[ptr p] 67)) := (Below.refl _ _).alloc (Nat.le_refl _) _
  have R := Lib.hid (h.below b1)
  rw [hv] at hz
  obtain ⟨g7, c7, a7⟩ := R.out.at_wy (by rw [L.wy]; omega)
  have f7 := a7.len_wy.1
  have l7 := a7.len_wy.2
  have k7 := a7.cap
  have x7 := a7.wy hz
  have z7 := a7.lt
  have zp := R.out.plt
  have HB := Lib.hid b1
  have HZ := Lib.hid hz
  have HL := Lib.hid L
  have e7 : v < d.wy.length := by rw [L.wy]; omega
  have v0 : (0 : Int) ≤ (v : Int) := by omega
  have v7 : (v : Int) < (d.wy.length : Int) := by omega
  have fb : (w.alloc (.cells #[ptr p] 67)).cell? ⟨w.heap.size, 0, none⟩ = some (ptr p) := by unfold World.cell?; rw [new_heap]; rfl
  rw [hv] at CN
  have HN := Lib.hid (show ndl d q = match d.wy[v]? with
    | none => false
    | some z => if z < 0 then false else match d.cls[z.toNat]? with
      | none => false
      | some c => !(c.ls.any (ndp d)) by unfold ndl; rw [hv])
  clear a7 hz b1 h L hv
  obtain ⟨nd, hnd⟩ : ∃ nd, ndl d q = nd := ⟨_, rfl⟩
  rw [hnd] at HN ⊢
  clear hnd
  go_enter Tryz.func172, Tryz.ntmps172
  go_wp2_with fail
  generalize (w.alloc (.cells #[ptr p] 67)) = W1 at *
  have HF := Lib.hid (show ∀ W2 W3 : World, Below W1.heap.size W1 W2 → Below W2.heap.size W2 W3 → Below w.heap.size w W3 from fun W2 W3 b2 b3 => by
    have b12 := HB.out.trans (b2.mono HB.out.size)
    exact b12.trans (b3.mono b12.size))
  obtain ⟨b, hb⟩ : ∃ b, w.heap.size = b := ⟨_, rfl⟩
  rw [hb] at fb ⊢
  clear hb
  have zb := lt_of_cell fb
  rcases hz2 with rfl | ⟨k, c, rfl, hkb, hk, hc⟩
  · obtain rfl : nd = false := by rw [HN.out, HZ.out]; rfl
    go_quiet ((go_at_call 90; with_reducible exact calm_one CN.out))
    go_wp2_with fail
    go_ret
    exact ⟨rfl, HF.out _ _ (Below.draws (Below.refl _ _) _) (Below.refl _ _)⟩
  · obtain rfl : nd = !(c.ls.any (ndp d)) := by rw [HN.out, HZ.out]; simp [hk]
    have HC := Lib.hid hc
    have HK := Lib.hid hk
    have km : ((k : Int) == -1) = false := beq_eq_false_iff_ne.2 (by omega)
    have km2 : ¬ (k : Int) = -1 := by omega
    clear hc hk HN
    go_quiet ((go_at_call 90; with_reducible exact calm_one CN.out))
    have B2 : Hid (Below W1.heap.size W1 (W1.drewN nq)) := Below.draws (Below.refl _ _) nq
    have fb2 : (W1.drewN nq).cell? ⟨b, 0, none⟩ = some (ptr p) := (B2.out.cell (p := ⟨b, 0, none⟩) zb).trans fb
    have R2 := Lib.hid (R.out.below B2.out)
    clear fb zb f7 x7 z7 zp R
    generalize W1.drewN nq = W2 at *
    obtain ⟨ga, capa, gl, capl, ca⟩ := R2.out.claim HK.out HC.out.1
    have fa := ca.head
    have ale := ca.le
    have amx := ca.mx
    have fl := ca.lit
    have za := ca.alt
    have zl := ca.llt
    have zp := R2.out.plt
    have zb := lt_of_cell fb2
    have k0 : (0 : Int) ≤ (k : Int) := by omega
    have k1 : (k : Int) < (d.cls.length : Int) := by have := ca.hk; omega
    have K := ndcontains_any R2.out HL.out fb2 ca.cell ca.llt ca.lle ca.lmx HC.out.2.2
    clear ca
    obtain ⟨rr, hrr⟩ : ∃ rr, c.ls.any (ndp d) = rr := ⟨_, rfl⟩
    rw [hrr] at K
    have HRR := Lib.hid hrr
    clear hrr
    go_wp2_with (go_at_call 205; ((with_reducible refine K.mono ?_); rintro e w' ⟨rfl, hw⟩; have HW := Lib.hid hw; clear hw))
    go_ret
    exact ⟨by show Ending.returned (Value.bool (!rr)) = _; rw [HRR.out], HF.out _ _ B2.out HW.out⟩
end
end Go.Proofs.YtpmdnbdmocdngaaGreat

namespace Go.Proofs.YtpmdnbdmocdngaaGreat
open Go.ChangeShapes Go.WideShapes Go.ChangeAt Go.RowKit
set_option linter.unusedVariables false
set_option linter.unusedSimpArgs false

/-- What needless asks of a literal's why. -/
def NdOk (n : Nat) (d : Sd) (q : Nat) : Prop := q < 2 * n ∧ ∃ z : Int, d.wy[q / 2]? = some z ∧ (z = -1 ∨ ∃ (k : Nat) (c : Cl), z = (k : Int) ∧ k < 2147483648 ∧ d.cls[k]? = some c ∧ CGood n c)
/-- The first place whose literal is needless. -/
def SiPost (d : Sd) (ls : List Nat) (w : World) (e : Ending) (w' : World) : Prop := Below w.heap.size w w' ∧ ((e = .returned (.int .i64 (-1)) ∧ ls.any (ndl d) = false) ∨ ∃ (j q : Nat), e = .returned (.int .i64 (j : Int)) ∧ ls[j]? = some q ∧ ndl d q = true ∧ (ls.take j).any (ndl d) = false)
section
variable {B : Nat} {τ : Nat → Nat} {w : World} {p n : Nat} {d : Sd}
set_option maxHeartbeats 1600000 in
theorem ndlindex_any (h : Sr B τ w p n d) (L : Len n d) {A : Option Addr} {cap : Nat} {ls : List Nat} (hc : ∀ (i q : Nat), ls[i]? = some q → ∃ a, A = some a ∧ w.cell? (a.add i) = some (.int .i32 (q : Int))) (hmx : ls.length ≤ 9223372036854775807) (hls : ∀ l ∈ ls, NdOk n d l) :
    Calls Tryz.prog 204 #[.slice A ls.length cap, .func (.func 172) #[ptr p] #[]] w (SiPost d ls w) := by
  have HC := Lib.hid hc
  have HLS := Lib.hid hls
  have K := Lib.hid (fun (W : World) (k : Below w.heap.size w W) (q : Nat) (hq : NdOk n d q) => show Calls Tryz.prog 172 #[ptr p, .int .i32 (q : Int)] W fun e w' => e = .returned (.bool (ndl d q)) ∧ Below W.heap.size W w' by
    obtain ⟨h1, z, h2, h3⟩ := hq
    exact needless_any (h.below k) L h1 h2 h3)
  clear h L hc hls
  go_enter Tryz.func204, Tryz.ntmps204
  go_wp2_with fail
  go_loopw [8] (fun iv wr => ∃ k : Nat, k ≤ ls.length ∧ iv = .int .i64 k ∧ Hid ((ls.take k).any (ndl d) = false) ∧ Hid (Below w.heap.size w wr)) (fun iv _ => ls.length - (intOf iv).toNat)
  case atStart => exact ⟨0, by omega, rfl, by simp [Hid], Below.refl _ _⟩
  case round =>
    obtain ⟨k, hk, rfl, H, HB⟩ := hrel
    by_cases hlt : k < ls.length
    · obtain ⟨q, hz⟩ : ∃ q, ls[k]? = some q := ⟨_, List.getElem?_eq_getElem hlt⟩
      obtain ⟨a, rfl, hca⟩ := HC.out k q hz
      have zl : a.block < w.heap.size := by have := lt_of_cell hca; rwa [add_block] at this
      have xk : wr.cell? (a.add k) = some (.int .i32 (q : Int)) := (HB.out.cell (p := a.add k) (by rw [add_block]; exact zl)).trans hca
      have cl := K.out wr HB.out q (HLS.out q (List.mem_of_getElem? hz))
      cases hr : ndl d q with
      | true =>
        have HE := Lib.hid (show ∀ W, Below w.heap.size w W → SiPost d ls w (.returned (.int .i64 (k : Int))) W from fun W b => ⟨b, .inr ⟨k, q, rfl, hz, hr, H.out⟩⟩)
        rw [hr] at cl
        clear hz hr hca
        go_wp2_with (go_at_call 172; ((with_reducible refine cl.mono ?_); rintro e w' ⟨rfl, hw⟩; have HW := Lib.hid (HB.out.trans (hw.mono HB.out.size)); clear hw))
        go_ret
        exact HE.out _ HW.out
      | false =>
        have HE := Lib.hid (show (ls.take (k + 1)).any (ndl d) = false by rw [anyN_take hz, H.out, hr]; rfl)
        rw [hr] at cl
        clear hz hr hca
        go_wp2_with (go_at_call 172; ((with_reducible refine cl.mono ?_); rintro e w' ⟨rfl, hw⟩; have HW := Lib.hid (HB.out.trans (hw.mono HB.out.size)); clear hw))
        go_roundw
        case rel => exact ⟨k + 1, by omega, by go_num, HE.out, HW.out⟩
        case measure => simp [intOf]; omega
    · obtain rfl : k = ls.length := by omega
      have HE : Hid (SiPost d ls w (.returned (.int .i64 (-1))) wr) := ⟨HB.out, .inl ⟨rfl, by have := H.out; rw [List.take_length] at this; exact this⟩⟩
      clear H
      go_wp2_with fail
      go_ret
      exact HE.out
end
end Go.Proofs.YtpmdnbdmocdngaaGreat

namespace Go.Proofs.YtpmdnbdmocdngaaGreat
open Go.ChangeShapes Go.WideShapes Go.ChangeAt Go.RowKit
set_option linter.unusedVariables false
set_option linter.unusedSimpArgs false

theorem sets_eq {α : Type} : ∀ (vs xs : List α) (o : Nat), o + vs.length ≤ xs.length → sets xs o vs = xs.take o ++ vs ++ xs.drop (o + vs.length)
  | [], xs, o, _ => by simp [sets]
  | v :: vs, xs, o, h => by
    rw [List.length_cons] at h
    have ih := sets_eq vs (xs.set o v) (o + 1) (by rw [List.length_set]; omega)
    show sets (xs.set o v) (o + 1) vs = _
    rw [ih, List.length_cons]
    have ho : o < xs.length := by omega
    have e1 : (xs.set o v).take (o + 1) = xs.take o ++ [v] := by
      rw [List.take_succ_eq_append_getElem (by rw [List.length_set]; exact ho), List.getElem_set_self, List.take_set_of_le (Nat.le_refl _)]
    have e2 : (xs.set o v).drop (o + 1 + vs.length) = xs.drop (o + (vs.length + 1)) := by
      rw [List.drop_set, if_pos (by omega), show o + 1 + vs.length = o + (vs.length + 1) by omega]
    rw [e1, e2]
    simp
/-- Of what there was, but for one block, all stays. -/
structure Stk (g : Nat) (w w' : World) : Prop where
  os : w'.os = w.os
  tape : w'.tape = w.tape
  output : w'.output = w.output
  size : w.heap.size ≤ w'.heap.size
  block : ∀ b, b < w.heap.size → b ≠ g → w'.heap[b]? = w.heap[b]?
theorem Stk.of_below {g : Nat} {w w' : World} (h : Below w.heap.size w w') : Stk g w w' := ⟨h.os, h.tape, h.output, h.size, fun b hb _ => h.block b hb⟩
theorem Stk.trans {g : Nat} {w w' w'' : World} (h : Stk g w w') (k : Stk g w' w'') : Stk g w w'' := ⟨k.os.trans h.os, k.tape.trans h.tape, k.output.trans h.output, Nat.le_trans h.size k.size, fun b hb hne => (k.block b (Nat.lt_of_lt_of_le hb h.size) hne).trans (h.block b hb hne)⟩
theorem Stk.set {g i : Nat} {w : World} {u : Value} : Stk g w (w.setCell ⟨g, i, none⟩ u) := ⟨rfl, rfl, rfl, by simp [World.setCell], fun b _ hne => set_other (p := ⟨g, i, none⟩) hne⟩
theorem Stk.cells {g : Nat} : ∀ (vs : List Value) (o : Nat) (w : World), Stk g w (w.setCells g o vs)
  | [], o, w => Stk.of_below (Below.refl _ _)
  | v :: vs, o, w => (Stk.set (g := g) (i := o) (w := w) (u := v)).trans (Stk.cells vs (o + 1) _)
/-- What is kept of a list. -/
def kp (d : Sd) (l : List Nat) : List Nat := l.filter fun q => !(ndl d q)
theorem kp_snoc {d : Sd} {l : List Nat} {j v : Nat} (h : l[j]? = some v) : kp d (l.take (j + 1)) = kp d (l.take j) ++ (if ndl d v = true then [] else [v]) := by
  obtain ⟨h1, h2⟩ := List.getElem?_eq_some_iff.1 h
  unfold kp
  rw [List.take_succ_eq_append_getElem h1, h2, List.filter_append]
  congr 1
  cases e : ndl d v <;> simp [e]
theorem kp_len (d : Sd) (l : List Nat) : (kp d l).length ≤ l.length := List.length_filter_le _ _
theorem kp_none {d : Sd} {l : List Nat} (h : l.any (ndl d) = false) : kp d l = l := by
  unfold kp
  rw [List.filter_eq_self]
  intro q hq
  have := (List.any_eq_false.1 h) q hq
  simpa using this
def DfPost (B : Nat) (τ : Nat → Nat) (w : World) (p n : Nat) (d : Sd) (g cap z : Nat) (tl : List Nat) (e : Ending) (w' : World) : Prop :=
  ∃ rest, e = .returned (.slice (some ⟨g, 1, none⟩) (kp d tl).length (cap - 1)) ∧ (kp d tl ++ rest).length = tl.length ∧ Sr B τ w' p n d ∧ RowN τ 0 w' 138 1 (.slice (some ⟨g, 0, none⟩) (tl.length + 1) cap) (tl.length + 1) (n32 (z :: (kp d tl ++ rest))) ∧ Stk g w w'
structure DfR (B : Nat) (τ : Nat → Nat) (w : World) (p n : Nat) (d : Sd) (g cap z : Nat) (tl : List Nat) (j : Nat) (N : List Nat) (wr : World) : Prop where
  R : Sr B τ wr p n d
  row : RowN τ 0 wr 138 1 (.slice (some ⟨g, 0, none⟩) (tl.length + 1) cap) (tl.length + 1) (n32 (z :: N))
  S : Stk g w wr
  len : N.length = tl.length
  tk : N.take (kp d (tl.take j)).length = kp d (tl.take j)
  dr : N.drop j = tl.drop j
section
variable {B : Nat} {τ : Nat → Nat} {w wr : World} {p n g cap z j : Nat} {d : Sd} {tl N : List Nat}
theorem DfR.below {W : World} (h : DfR B τ w p n d g cap z tl j N wr) (b : Below wr.heap.size wr W) : DfR B τ w p n d g cap z tl j N W :=
  ⟨h.R.below b, h.row.stp (Stp.of_below τ b), h.S.trans (Stk.of_below b), h.len, h.tk, h.dr⟩
theorem DfR.get (h : DfR B τ w p n d g cap z tl j N wr) {i : Nat} (hj : j ≤ i) : N[i]? = tl[i]? := by
  have e := h.dr
  have : (N.drop j)[i - j]? = (tl.drop j)[i - j]? := by rw [e]
  rwa [List.getElem?_drop, List.getElem?_drop, show j + (i - j) = i by omega] at this
theorem DfR.skip (h : DfR B τ w p n d g cap z tl j N wr) {v : Nat} (hv : tl[j]? = some v) (hn : ndl d v = true) : DfR B τ w p n d g cap z tl (j + 1) N wr := by
  refine ⟨h.R, h.row, h.S, h.len, ?_, ?_⟩
  · rw [kp_snoc hv, if_pos hn, List.append_nil]; exact h.tk
  · rw [← List.drop_drop, ← List.drop_drop, h.dr]
theorem DfR.put (h : DfR B τ w p n d g cap z tl j N wr) {v : Nat} (hv : tl[j]? = some v) (hn : ndl d v = false) (hi : (kp d (tl.take j)).length < j + 1) : DfR B τ w p n d g cap z tl (j + 1) (N.set (kp d (tl.take j)).length v) (wr.setCell ⟨g, 1 + (kp d (tl.take j)).length, none⟩ (.int .i32 (v : Int))) := by
  have hj := (List.getElem?_eq_some_iff.1 hv).1
  have hg : τ g = 0 := h.row.2 g rfl
  have k1 : Step (fun r => r = 0) τ τ wr (wr.setCell ⟨g, 1 + (kp d (tl.take j)).length, none⟩ (.int .i32 (v : Int))) := Step.set _ _ hg
  refine ⟨?_, ?_, h.S.trans Stk.set, by rw [List.length_set]; exact h.len, ?_, ?_⟩
  · obtain ⟨pcs, s⟩ := h.R
    exact ⟨pcs, s.step k1 (fun r hr e => by omega)⟩
  · have := h.row.store (i := 1 + (kp d (tl.take j)).length) (by omega) (.int .i32 (v : Int))
    have e : (n32 (z :: N)).set (1 + (kp d (tl.take j)).length) (.int .i32 (v : Int)) = n32 (z :: N.set (kp d (tl.take j)).length v) := by
      rw [Nat.add_comm]
      show Value.int .i32 (z : Int) :: (n32 N).set _ _ = _
      rw [show (n32 N).set (kp d (tl.take j)).length (.int .i32 (v : Int)) = n32 (N.set (kp d (tl.take j)).length v) from List.map_set.symm]
      rfl
    rw [e] at this; exact this
  · rw [kp_snoc hv, if_neg (by rw [hn]; decide)]
    have hk : (kp d (tl.take j)).length < N.length := by rw [h.len]; omega
    rw [List.length_append, List.length_singleton, List.take_succ_eq_append_getElem (by rw [List.length_set]; exact hk), List.getElem_set_self, List.take_set_of_le (Nat.le_refl _), h.tk]
  · rw [List.drop_set, if_pos hi, ← List.drop_drop, ← List.drop_drop, h.dr]
end
end Go.Proofs.YtpmdnbdmocdngaaGreat
