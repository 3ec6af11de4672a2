/-
  Parts of the proof, joined: DpllQ4, DpllTl.
-/
import Derived.Test.YtcebpbjpbnfacaaGreatMg10
import Derived.Test.YtcebpbjpbnfacaaGreatMg14

/-
  The queue of package dpll: lower, prefer.
-/
namespace Go.Proofs.YtcebpbjpbnfacaaGreat
open Go.ChangeShapes Go.WideShapes Go.ChangeAt Go.RowKit
set_option linter.unusedVariables false
set_option linter.unusedSimpArgs false

/-- The queue with other scores: the same numbers wait. -/
def QSc (B : Nat) (τ : Nat → Nat) (w : World) (p n : Nat) (d : Sd) (w' : World) : Prop :=
  ∃ hp' pl' sc' ra', Sr B τ w' p n { d with hp := hp', pl := pl', sc := sc', ra := ra' } ∧ Stp τ τ w w' ∧ QOk n hp' pl' ∧ sc'.length = n ∧ (∀ u, u ∈ hp' ↔ u ∈ d.hp) ∧ w'.cell? ⟨p, 14, none⟩ = w.cell? ⟨p, 14, none⟩
structure LoR (B : Nat) (τ : Nat → Nat) (w : World) (p n : Nat) (d : Sd) (wr : World) (hp' : List Nat) (pl' sc' : List Int) (ra' : Int) : Prop where
  sr : Sr B τ wr p n { d with hp := hp', pl := pl', sc := sc', ra := ra' }
  st : Stp τ τ w wr
  q : QOk n hp' pl'
  sl : sc'.length = n
  m : ∀ u, u ∈ hp' ↔ u ∈ d.hp
  c4 : wr.cell? ⟨p, 14, none⟩ = w.cell? ⟨p, 14, none⟩
section
variable {B : Nat} {τ : Nat → Nat} {w : World} {p n : Nat} {d : Sd}
set_option maxHeartbeats 1600000 in
theorem qlower_any (h : Sr B τ w p n d) (hq : QOk n d.hp d.pl) (hn : n ≤ 65536) (hsc : d.sc.length = n) :
    Calls Tryz.prog 133 #[qp p] w fun e w' => e = .returned (.tuple #[]) ∧ QSc B τ w p n d w' := by
  have f12 := h.get_ra
  have zp := h.plt
  have rp := h.pfree
  obtain ⟨A, cs, f11, hA⟩ := h.head_sc
  have HST := Lib.hid (show ∀ x : Int, LoR B τ w p n d (w.setCell ⟨p, 12, none⟩ (.int .i64 x)) d.hp d.pl d.sc x from fun x => ⟨(h.set_ra x).1, (h.set_ra x).2, hq, hsc, fun u => Iff.rfl, World.cell?_setCell_other w ⟨p, 12, none⟩ ⟨p, 14, none⟩ _ (by intro e; injection e with _ e; omega)⟩)
  have hsn : d.sc.length < 100000 := by omega
  clear h hq
  have HSC := Lib.hid hsc
  clear hsc
  go_enter Tryz.func133, Tryz.ntmps133
  go_wp2_with fail
  go_loopw [16] (fun iv wr => ∃ (k : Nat) (sc' : List Int) (x : Int), k ≤ d.sc.length ∧ iv = .int .i64 k ∧ LoR B τ w p n d wr d.hp d.pl sc' x) (fun iv _ => d.sc.length - (intOf iv).toNat)
  case atStart => exact ⟨0, _, _, by omega, rfl, HST.out _⟩
  case round =>
    obtain ⟨k, sc', x, hk, rfl, hrel⟩ := hrel
    have R := Lib.hid hrel
    clear hrel
    by_cases hlt : k < d.sc.length
    · have hsl : k < sc'.length := by have := R.out.sl; have := HSC.out; omega
      obtain ⟨g, c, a⟩ := R.out.sr.at_sc (by show 0 < sc'.length; omega)
      obtain ⟨y, hy⟩ : ∃ y, sc'[k]? = some y := ⟨_, List.getElem?_eq_getElem hsl⟩
      have f := a.len_sc.1
      have l := a.len_sc.2
      have kc := a.cap
      have xk := a.sc hy
      have z := a.lt
      have zw := R.out.sr.plt
      have fr := a.free
      have HP := Lib.hid (show ∀ v : Int, LoR B τ w p n d (wr.setCell ⟨g, k, none⟩ (.int .i64 v)) d.hp d.pl (sc'.set k v) x from fun v => ⟨(R.out.sr.put_sc a hsl v).1, R.out.st.trans (R.out.sr.put_sc a hsl v).2, R.out.q, by rw [List.length_set]; exact R.out.sl, R.out.m, (World.cell?_of_block (set_other (p := ⟨g, k, none⟩) a.ne.symm)).trans R.out.c4⟩)
      clear a hy
      go_wp2_with fail
      go_roundw
      case rel => exact ⟨k + 1, _, _, by omega, by go_num, HP.out _⟩
      case measure => simp [intOf]; omega
    · obtain rfl : k = d.sc.length := by omega
      obtain ⟨A2, c2, f9, hA2⟩ := R.out.sr.head_hp
      have hle := R.out.q.le
      have HR0 := Lib.hid (show LoR B τ w p n d wr d.hp d.pl sc' x from R.out)
      have hd := Int.tdiv_eq_ediv_of_nonneg (a := (d.hp.length : Int)) (b := 2) (by omega)
      have hlb : (d.hp.length : Int) ≤ 65536 := by omega
      obtain ⟨hf, hhf⟩ : ∃ z : Nat, z = d.hp.length / 2 := ⟨_, rfl⟩
      have hd2 : (d.hp.length : Int).tdiv 2 = (hf : Int) := by rw [hd]; omega
      have hfb : hf ≤ 65536 := by omega
      have HHF := Lib.hid (show hf ≤ d.hp.length by omega)
      have hw1 : IntKind.i64.wrap ((hf : Int) - 1) = (hf : Int) - 1 := IntWalk.i64_in _ (by omega)
      have f9' : wr.cell? ⟨p, 9, none⟩ = some (.slice A2 d.hp.length c2) := f9
      have zw := R.out.sr.plt
      clear R hd f9 hhf
      go_wp2_with fail
      go_loopw [3] (fun iv wr => ∃ (k : Nat) (hp' : List Nat) (pl' : List Int), k ≤ hf ∧ iv = .int .i64 ((k : Int) - 1) ∧ hp'.length = d.hp.length ∧ LoR B τ w p n d wr hp' pl' sc' x) (fun iv _ => (intOf iv + 1).toNat)
      case atStart => exact ⟨hf, _, _, by omega, rfl, rfl, HR0.out⟩
      case round =>
        obtain ⟨k, hp', pl', hk, rfl, hhl, hrel⟩ := hrel
        have R := Lib.hid hrel
        have HHL := Lib.hid hhl
        clear hrel hhl
        by_cases hk0 : 0 < k
        · obtain ⟨j, rfl⟩ : ∃ j, k = j + 1 := ⟨k - 1, by omega⟩
          have hj1 : ((j + 1 : Nat) : Int) - 1 = (j : Int) := by omega
          rw [hj1]
          have hjl : j < hp'.length := by have := HHL.out; have := HHF.out; omega
          have hjb : j < 65536 := by omega
          obtain ⟨g, c, a⟩ := R.out.sr.at_hp (by show 0 < hp'.length; omega)
          obtain ⟨v, hv⟩ : ∃ y, hp'[j]? = some y := ⟨_, List.getElem?_eq_getElem hjl⟩
          have f := a.len_hp.1
          have l := a.len_hp.2
          have kc := a.cap
          have xk := a.hp hv
          have z := a.lt
          have zw2 := R.out.sr.plt
          obtain ⟨q1, q2⟩ := R.out.q.hole hv
          have HM := Lib.hid q2
          have CD := Lib.hid (qdown_any R.out.sr (i := j) (v := v) q1 hn (by show hp'.length ≤ n; exact R.out.q.le) (by show sc'.length = n; exact R.out.sl))
          clear a hv q1 q2
          go_wp2_with fail
          (with_reducible refine CD.out.mono ?_)
          rintro e w2 ⟨rfl, hp2, pl2, q1, q2, q3, q4, q5⟩
          have R2 : Hid (hp2.length = d.hp.length ∧ LoR B τ w p n d w2 hp2 pl2 sc' x) := ⟨q4.trans HHL.out, q1, R.out.st.trans (Stp.of_step q2 (by decide)), q3, R.out.sl, fun u => (q5 u).trans ((HM.out u).trans (R.out.m u)), (World.cell?_of_block (q2.kept.block p R.out.sr.plt (by rw [show τ p = 1 by obtain ⟨pcs, s⟩ := R.out.sr; exact s.blk.2]; decide))).trans R.out.c4⟩
          clear q1 q2 q3 q4 q5
          go_wp2_with fail
          go_roundw
          case rel => exact ⟨j, hp2, pl2, by omega, by go_num, R2.out.1, R2.out.2⟩
          case measure => simp [intOf]
        · obtain rfl : k = 0 := by omega
          have HQ : Hid (QSc B τ w p n d wr) := ⟨hp', pl', sc', x, R.out.sr, R.out.st, R.out.q, R.out.sl, R.out.m, R.out.c4⟩
          rw [show (((0 : Nat) : Int) - 1) = -1 from rfl]
          go_wp2_with fail
          go_end0
          exact ⟨rfl, HQ.out⟩
abbrev Rs (r : Nat) : Prop := r = 11 ∨ r = 12 ∨ r = 13
structure PrR (B : Nat) (τ : Nat → Nat) (w : World) (p n : Nat) (d : Sd) (wr : World) (hp' : List Nat) (pl' sc' : List Int) : Prop where
  sr : Sr B τ wr p n { d with hp := hp', pl := pl', sc := sc' }
  st : Step Rs τ τ w wr
  q : QOk n hp' pl'
  sl : sc'.length = n
  m : ∀ u, u ∈ hp' ↔ u ∈ d.hp
theorem PrR.alike {wr W : World} {hp' : List Nat} {pl' sc' : List Int} (h : PrR B τ w p n d wr hp' pl' sc') (he : W.heap = wr.heap) (h1 : W.os = wr.os) (h2 : W.tape = wr.tape) (h3 : W.output = wr.output) : PrR B τ w p n d W hp' pl' sc' :=
  ⟨h.sr.alike he h1 h2 h3, h.st.alike he h1 h2 h3, h.q, h.sl, h.m⟩
theorem PrR.up {wr w2 : World} {hp' : List Nat} {pl' sc' : List Int} {j v : Nat} (h : PrR B τ w p n d wr hp' pl' sc') (hm : ∀ u, Wh hp' j v u ↔ u ∈ hp') (k : QDone B τ wr p n { d with hp := hp', pl := pl', sc := sc' } (Wh hp' j v) w2) : ∃ hp2 pl2, PrR B τ w p n d w2 hp2 pl2 sc' := by
  obtain ⟨hp2, pl2, q1, q2, q3, q4, q5⟩ := k
  exact ⟨hp2, pl2, q1, h.st.trans (q2.mono fun r hr => hr.imp id .inl), q3, h.sl, fun u => (q5 u).trans ((hm u).trans (h.m u))⟩
set_option maxHeartbeats 1600000 in
theorem qprefer_any (h : Sr B τ w p n d) (hq : QOk n d.hp d.pl) (hn : n ≤ 65536) (hsc : d.sc.length = n) (hnu : ∀ u ∈ d.nu, u < n) (hnl : d.nu.length ≤ 100000) {A : Option Addr} {cap : Nat} (hA : w.cell? ⟨p, 14, none⟩ = some (.slice A d.nu.length cap)) :
    Calls Tryz.prog 98 #[qp p, .slice A d.nu.length cap] w fun e w' => e = .returned (.tuple #[]) ∧ QSc B τ w p n d w' := by
  have HNU := Lib.hid (show ∀ (k u : Nat), d.nu[k]? = some u → u < n ∧ ∃ g, A = some ⟨g, 0, none⟩ ∧ τ g = 16 ∧ w.cell? ⟨g, k, none⟩ = some (.int .i32 (u : Int)) ∧ g < w.heap.size ∧ d.nu.length ≤ cap ∧ cap ≤ 9223372036854775807 from fun k u hu => by
    refine ⟨hnu u (List.mem_of_getElem? hu), ?_⟩
    obtain ⟨g, c, a⟩ := h.at_nu (by have := (List.getElem?_eq_some_iff.1 hu).1; omega)
    have h1 := a.len_nu.1
    rw [hA] at h1
    injection h1 with h1; injection h1 with h1 _ h2
    subst h1; subst h2
    exact ⟨g, rfl, a.role, a.nu hu, a.lt, a.len_nu.2, a.cap⟩)
  have H0 := Lib.hid (show PrR B τ w p n d w d.hp d.pl d.sc from ⟨h, Step.refl _ _ _, hq, hsc, fun u => Iff.rfl⟩)
  have HP1 := Lib.hid (show p < w.heap.size ∧ τ p = 1 from ⟨h.plt, by obtain ⟨pcs, s⟩ := h; exact s.blk.2⟩)
  clear h hq hsc hnu hA
  go_enter Tryz.func98, Tryz.ntmps98
  go_wp2_with fail
  go_loopw [9] (fun iv wr => ∃ (k : Nat) (hp' : List Nat) (pl' sc' : List Int), k ≤ d.nu.length ∧ iv = .int .i64 k ∧ PrR B τ w p n d wr hp' pl' sc') (fun iv _ => d.nu.length - (intOf iv).toNat)
  case atStart => exact ⟨0, _, _, _, by omega, rfl, H0.out⟩
  case round =>
    obtain ⟨k, hp', pl', sc', hk, rfl, hrel⟩ := hrel
    have R := Lib.hid hrel
    clear hrel
    by_cases hlt : k < d.nu.length
    · obtain ⟨v, hv⟩ : ∃ v, d.nu[k]? = some v := ⟨_, List.getElem?_eq_getElem hlt⟩
      obtain ⟨hvn, gn, rfl, hro, hcn, hgn, hca, hcb⟩ := HNU.out k v hv
      have xn : wr.cell? ⟨gn, k, none⟩ = some (.int .i32 (v : Int)) := (World.cell?_of_block (R.out.st.kept.block gn hgn (by rw [hro]; decide))).trans hcn
      have zn : gn < wr.heap.size := Nat.lt_of_lt_of_le hgn R.out.st.kept.size
      have hvs : v < sc'.length := by have := R.out.sl; omega
      have hvp : v < pl'.length := by have := R.out.q.len; omega
      obtain ⟨g, c, a⟩ := R.out.sr.at_sc (by show 0 < sc'.length; omega)
      obtain ⟨y, hy⟩ : ∃ y, sc'[v]? = some y := ⟨_, List.getElem?_eq_getElem hvs⟩
      have f := a.len_sc.1
      have l := a.len_sc.2
      have kc := a.cap
      have xk := a.sc hy
      have z := a.lt
      have fr := a.free
      have f12 : wr.cell? ⟨p, 12, none⟩ = some (.int .i64 d.ra) := R.out.sr.get_ra
      have zw := R.out.sr.plt
      have HP := Lib.hid (show ∀ x : Int, PrR B τ w p n d (wr.setCell ⟨g, v, none⟩ (.int .i64 x)) hp' pl' (sc'.set v x) from fun x => ⟨(R.out.sr.put_sc a hvs x).1, R.out.st.trans (Step.set _ _ (.inr (.inr a.role))), R.out.q, by rw [List.length_set]; exact R.out.sl, R.out.m⟩)
      clear a hy hv hcn
      go_wp2_with fail
      go_region
      generalize wrap64 (y + d.ra) = ns at *
      have R := Lib.hid ((HP.out ns).alike (W := (wr.setCell ⟨g, v, none⟩ (.int .i64 ns)).drew) rfl rfl rfl rfl)
      generalize (wr.setCell ⟨g, v, none⟩ (.int .i64 ns)).drew = W1 at *
      clear HP f l kc xk z fr f12 xn zn
      obtain ⟨g2, c2, a2⟩ := R.out.sr.at_pl (by show 0 < pl'.length; omega)
      have f := a2.len_pl.1
      have l := a2.len_pl.2
      have kc := a2.cap
      have z := a2.lt
      have zw1 := R.out.sr.plt
      by_cases hm : v ∈ hp'
      · obtain ⟨j, hj⟩ := List.getElem?_of_mem hm
        have xk := a2.pl (R.out.q.at_ j v hj).2
        have hjb : (j : Int) ≠ -1 := by omega
        have hjn : ((j : Int) == -1) = false := beq_eq_false_iff_ne.2 hjb
        have hjl : j < 65536 := by have := (List.getElem?_eq_some_iff.1 hj).1; have := R.out.q.le; omega
        have hcv : IntKind.i64.wrap (j : Int) = (j : Int) := IntWalk.i64_in _ (by omega)
        obtain ⟨q1, q2⟩ := R.out.q.hole hj
        have HM := Lib.hid q2
        have CU := Lib.hid (qup_any R.out.sr (i := j) (v := v) q1 hn (by show hp'.length ≤ n; exact R.out.q.le) (by show (sc'.set v ns).length = n; exact R.out.sl))
        clear a2 hm hj q1 q2
        go_wp2_with fail
        (with_reducible refine CU.out.mono ?_)
        rintro e w2 ⟨rfl, hd⟩
        obtain ⟨hp2, pl2, R2⟩ := R.out.up HM.out hd
        have R2 := Lib.hid R2
        clear hd
        go_wp2_with fail
        go_roundw
        case rel => exact ⟨k + 1, hp2, pl2, _, by omega, by go_num, R2.out⟩
        case measure => simp [intOf]; omega
      · have xk := a2.pl (R.out.q.out v hvn hm)
        clear a2 hm
        go_wp2_with fail
        go_roundw
        case rel => exact ⟨k + 1, _, _, _, by omega, by go_num, R.out⟩
        case measure => simp [intOf]; omega
    · obtain rfl : k = d.nu.length := by omega
      have f12 : wr.cell? ⟨p, 12, none⟩ = some (.int .i64 d.ra) := R.out.sr.get_ra
      have zw := R.out.sr.plt
      have fr := R.out.sr.pfree
      have HSET := Lib.hid (show ∀ x : Int, Sr B τ (wr.setCell ⟨p, 12, none⟩ (.int .i64 x)) p n { d with hp := hp', pl := pl', sc := sc', ra := x } ∧ Stp τ τ w (wr.setCell ⟨p, 12, none⟩ (.int .i64 x)) from fun x => ⟨(R.out.sr.set_ra x).1, (Stp.of_step R.out.st (by decide)).trans (R.out.sr.set_ra x).2⟩)
      go_wp2_with fail
      go_region
      generalize wrap64 (d.ra + d.ra / 16) = x at *
      have HSR := Lib.hid ((HSET.out x).1.alike (W := (wr.setCell ⟨p, 12, none⟩ (.int .i64 x)).drew) rfl rfl rfl rfl)
      have HST := Lib.hid ((HSET.out x).2.alike (W := (wr.setCell ⟨p, 12, none⟩ (.int .i64 x)).drew) rfl rfl rfl rfl)
      have HQ := Lib.hid R.out.q
      have HL := Lib.hid R.out.sl
      have HM := Lib.hid R.out.m
      have H14 := Lib.hid (show (wr.setCell ⟨p, 12, none⟩ (.int .i64 x)).drew.cell? ⟨p, 14, none⟩ = w.cell? ⟨p, 14, none⟩ from (World.cell?_setCell_other wr ⟨p, 12, none⟩ ⟨p, 14, none⟩ _ (by intro e; injection e with _ e; omega)).trans (World.cell?_of_block (R.out.st.kept.block p HP1.out.1 (by rw [HP1.out.2]; decide))))
      have f12' : (wr.setCell ⟨p, 12, none⟩ (.int .i64 x)).drew.cell? ⟨p, 12, none⟩ = some (.int .i64 x) := World.cell?_setCell_same _ _ _ f12
      clear HSET R f12 fr
      generalize (wr.setCell ⟨p, 12, none⟩ (.int .i64 x)).drew = W2 at *
      have zw2 := HSR.out.plt
      by_cases hx : 72057594037927936 < x
      · have CL := Lib.hid (qlower_any HSR.out HQ.out hn HL.out)
        go_wp2_with fail
        (with_reducible refine CL.out.mono ?_)
        rintro e w2 ⟨rfl, hp2, pl2, sc2, ra2, q1, q2, q3, q4, q5, q6⟩
        have HQ2 : Hid (QSc B τ w p n d w2) := ⟨hp2, pl2, sc2, ra2, q1, HST.out.trans q2, q3, q4, fun u => (q5 u).trans (HM.out u), q6.trans H14.out⟩
        clear q1 q2 q3 q4 q5 q6
        go_wp2_with fail
        go_end0
        exact ⟨rfl, HQ2.out⟩
      · have hx' : x ≤ 72057594037927936 := by omega
        have HQ2 : Hid (QSc B τ w p n d W2) := ⟨_, _, _, x, HSR.out, HST.out, HQ.out, HL.out, HM.out, H14.out⟩
        clear hx
        go_wp2_with fail
        go_end0
        exact ⟨rfl, HQ2.out⟩
end
end Go.Proofs.YtcebpbjpbnfacaaGreat

/-
  A region that draws its order and ends in an operation that waits for all others, by whatever chain.
-/
namespace Go.Proofs.YtcebpbjpbnfacaaGreat
set_option linter.unusedVariables false

section
variable {P : Program} {pre : Array Oper} {o : Oper} {Q : Exit → Act → World → Prop}
/-- Does j wait for i, by a chain of so many? -/
def reachB (pre : Array Oper) : Nat → Nat → Nat → Bool
  | 0, j, i => j == i
  | k + 1, j, i => j == i || match pre[j]? with
    | some x => x.after.any fun e => Region.binds .any e && reachB pre k e.on i
    | none => false
theorem reach_done {l : Array Bool} (S : Shut2 pre l) : ∀ (k j i : Nat), reachB pre k j i = true → l[j]? = some true → l[i]? = some true
  | 0, j, i, h, hj => by
    have : j = i := by simpa [reachB] using h
    rw [← this]; exact hj
  | k + 1, j, i, h, hj => by
    unfold reachB at h
    rw [Bool.or_eq_true] at h
    rcases h with h | h
    · have : j = i := by simpa using h
      rw [← this]; exact hj
    · split at h
      · rename_i x hx
        obtain ⟨k2, hk2, hb⟩ := Array.any_eq_true.1 h
        rw [Bool.and_eq_true] at hb
        exact reach_done S k _ i hb.2 (S.2 j x hx hj _ (Array.getElem_mem hk2) hb.1)
      · cases h
def tailB2 (pre : Array Oper) (o : Oper) : Bool :=
  pre.all (fun x => x.guard.isNone) && o.guard.isNone &&
  (List.range pre.size).all (fun i => match pre[i]? with | some x => x.after.all fun e => !Region.binds .any e || decide (e.on < i) | none => false) &&
  o.after.all (fun e => decide (e.on < pre.size)) &&
  (List.range pre.size).all (fun i => o.after.any fun e => Region.binds .any e && reachB pre 12 e.on i)
structure Tail2 (pre : Array Oper) (o : Oper) : Prop where
  g1 : ∀ (i : Nat) (x : Oper), pre[i]? = some x → x.guard = none
  g2 : o.guard = none
  wf : ∀ (i : Nat) (x : Oper), pre[i]? = some x → ∀ e ∈ x.after, Region.binds .any e = true → e.on < i
  o1 : ∀ e ∈ o.after, e.on < pre.size
  o2 : ∀ l : Array Bool, Shut2 pre l → (∀ e ∈ o.after, Region.binds .any e = true → l[e.on]? = some true) → ∀ i, i < pre.size → l[i]? = some true
theorem tail_of2 (h : tailB2 pre o = true) : Tail2 pre o := by
  unfold tailB2 at h
  simp only [Bool.and_eq_true] at h
  obtain ⟨⟨⟨⟨h1, h2⟩, h3⟩, h4⟩, h5⟩ := h
  refine ⟨fun i x hx => ?_, Option.isNone_iff_eq_none.1 h2, fun i x hx e he hb => ?_, fun e he => ?_, fun l S hl i hi => ?_⟩
  · obtain ⟨hi, hx'⟩ := Array.getElem?_eq_some_iff.1 hx
    have := Array.all_eq_true.1 h1 i hi
    rw [hx'] at this; exact Option.isNone_iff_eq_none.1 this
  · have hi := (Array.getElem?_eq_some_iff.1 hx).1
    have := List.all_eq_true.1 h3 i (List.mem_range.2 hi)
    rw [hx] at this
    obtain ⟨k, hk, e'⟩ := Array.mem_iff_getElem.1 he
    have := Array.all_eq_true.1 this k hk
    rw [e', hb] at this
    simpa using this
  · obtain ⟨k, hk, e'⟩ := Array.mem_iff_getElem.1 he
    have := Array.all_eq_true.1 h4 k hk
    rw [e'] at this; exact of_decide_eq_true this
  · have := List.all_eq_true.1 h5 i (List.mem_range.2 hi)
    obtain ⟨k, hk, hb⟩ := Array.any_eq_true.1 this
    rw [Bool.and_eq_true] at hb
    exact reach_done S 12 _ i hb.2 (hl _ (Array.getElem_mem hk) hb.1)
theorem all_in2 (T : Tail2 pre o) {l : Array Bool} (hl : l.size = pre.size) (h : Region.ready .any pre l = []) : ∀ i, i < pre.size → l[i]? = some true := by
  intro i
  induction i using Nat.strongRecOn with
  | _ i ih =>
    intro hi
    cases e : l[i]? with
    | none => rw [Array.getElem?_eq_none_iff] at e; omega
    | some b =>
      cases b with
      | true => rfl
      | false =>
        exfalso
        have hx : pre[i]? = some pre[i] := Array.getElem?_eq_getElem hi
        have : i ∈ Region.ready .any pre l := mem_ready.2 ⟨at_true.2 e, pre[i], hx, fun e' he hb => at_false.2 (ih e'.on (T.wf i _ hx e' he hb) (by have := T.wf i _ hx e' he hb; omega))⟩
        rw [h] at this; cases this
theorem ready_pre2 (T : Tail2 pre o) {l : Array Bool} (hl : l.size = pre.size) {i : Nat} (hi : i < pre.size) (h : i ∈ Region.ready .any (pre.push o) (l.push false)) : i ∈ Region.ready .any pre l := by
  obtain ⟨h0, x, hx, hall⟩ := mem_ready.1 h
  rw [Array.getElem?_push, if_neg (by omega)] at hx
  have h0 := at_true.1 h0
  rw [Array.getElem?_push, if_neg (by omega)] at h0
  refine mem_ready.2 ⟨at_true.2 h0, x, hx, fun e he hb => ?_⟩
  have := at_false.1 (hall e he hb)
  have hlt := T.wf i x hx e he hb
  rw [Array.getElem?_push, if_neg (by omega)] at this
  exact at_false.2 this
theorem ready_last2 (T : Tail2 pre o) {l : Array Bool} (S : Shut2 pre l) (h : pre.size ∈ Region.ready .any (pre.push o) (l.push false)) : Region.ready .any pre l = [] := by
  obtain ⟨h0, x, hx, hall⟩ := mem_ready.1 h
  rw [Array.getElem?_push, if_pos rfl] at hx
  injection hx with hx; subst hx
  have ho : ∀ e ∈ o.after, Region.binds .any e = true → l[e.on]? = some true := fun e he hb => by
    have := at_false.1 (hall e he hb)
    rw [Array.getElem?_push, if_neg (by have := T.o1 e he; have := S.1; omega)] at this
    exact this
  have hl : ∀ i, i < pre.size → l[i]? = some true := T.o2 l S ho
  refine List.eq_nil_iff_forall_not_mem.2 fun i hi => ?_
  obtain ⟨k0, x, hx, _⟩ := mem_ready.1 hi
  have := hl i (Array.getElem?_eq_some_iff.1 hx).1
  rw [at_true.1 k0] at this; cases this
theorem last_ready2 (T : Tail2 pre o) {l : Array Bool} (hl : l.size = pre.size) (h : ∀ i, i < pre.size → l[i]? = some true) : pre.size ∈ Region.ready .any (pre.push o) (l.push false) :=
  mem_ready.2 ⟨at_true.2 (by rw [Array.getElem?_push, if_pos (by omega)]), o, by rw [Array.getElem?_push, if_pos rfl], fun e he _ => at_false.2 (by
    have := T.o1 e he
    rw [Array.getElem?_push, if_neg (by omega)]; exact h _ this)⟩
theorem any_tail2 (T : Tail2 pre o) : ∀ (fuel : Nat) (l : Array Bool) (a : Act) (w : World), Shut2 pre l → wpAny P .any pre (lastPost P o Q) fuel l a w → wpAny P .any (pre.push o) Q (fuel + 1) (l.push false) a w := by
  have last : ∀ (fuel : Nat) (l : Array Bool) (a : Act) (w : World), Shut2 pre l → Region.ready .any pre l = [] → lastPost P o Q .normal a w → (Region.ready .any (pre.push o) (l.push false) = [] → Q .normal a w) ∧ wpOp P (pre.push o) Q pre.size (wpAny P .any (pre.push o) Q fuel ((l.push false).setIfInBounds pre.size true)) a w := by
    intro fuel l a w S hr hq
    have hall := all_in2 T S.1 hr
    refine ⟨fun h => ?_, ?_⟩
    · have := last_ready2 T S.1 hall; rw [h] at this; cases this
    · unfold wpOp
      rw [Array.getElem?_push, if_pos rfl]
      simp only []
      rw [if_pos (wanted_none T.g2 _)]
      exact .inl (Oper.wp_mono (fun a' w' h' => wpAny_done (all_done S.1 hall) h' fuel) hq)
  intro fuel
  induction fuel with
  | zero =>
    intro l a w S h
    obtain ⟨h1, h2⟩ := last 0 l a w S h.1 h.2
    refine ⟨h1, fun i hi => ?_⟩
    by_cases e : i = pre.size
    · subst e; exact h2
    · have hlt : i < pre.size := by obtain ⟨_, x, hx, _⟩ := mem_ready.1 hi; have := (Array.getElem?_eq_some_iff.1 hx).1; rw [Array.size_push] at this; omega
      have := ready_pre2 T S.1 hlt hi
      rw [h.1] at this; cases this
  | succ fuel ih =>
    intro l a w S h
    refine ⟨fun hr => ?_, fun i hi => ?_⟩
    · by_cases hp : Region.ready .any pre l = []
      · exact (last (fuel + 1) l a w S hp (h.1 hp)).1 hr
      · obtain ⟨i, hi⟩ := List.exists_mem_of_ne_nil _ hp
        exfalso
        obtain ⟨k0, x, hx, hall⟩ := mem_ready.1 hi
        have hlt := (Array.getElem?_eq_some_iff.1 hx).1
        have : i ∈ Region.ready .any (pre.push o) (l.push false) := mem_ready.2 ⟨at_true.2 (by rw [Array.getElem?_push, if_neg (by have := S.1; omega)]; exact at_true.1 k0), x, by rw [Array.getElem?_push, if_neg (by omega)]; exact hx, fun e he hb => at_false.2 (by
          have := T.wf i x hx e he hb
          rw [Array.getElem?_push, if_neg (by have := S.1; omega)]; exact at_false.1 (hall e he hb))⟩
        rw [hr] at this; cases this
    · by_cases e : i = pre.size
      · subst e
        have hp := ready_last2 T S hi
        exact (last (fuel + 1) l a w S hp (h.1 hp)).2
      · have hlt : i < pre.size := by obtain ⟨_, x, hx, _⟩ := mem_ready.1 hi; have := (Array.getElem?_eq_some_iff.1 hx).1; rw [Array.size_push] at this; omega
        have hi' := ready_pre2 T S.1 hlt hi
        have h1 := h.2 i hi'
        have hset : (l.push false).setIfInBounds i true = (l.setIfInBounds i true).push false := by
          refine Array.ext_getElem? fun j => ?_
          have hs := S.1
          by_cases ej : i = j
          · subst ej
            rw [Array.getElem?_setIfInBounds_self_of_lt (by rw [Array.size_push]; omega), Array.getElem?_push, if_neg (by rw [Array.size_setIfInBounds]; omega), Array.getElem?_setIfInBounds_self_of_lt (by omega)]
          · rw [Array.getElem?_setIfInBounds_ne ej, Array.getElem?_push, Array.getElem?_push, Array.size_setIfInBounds, Array.getElem?_setIfInBounds_ne ej]
        have S' : Shut2 pre (l.setIfInBounds i true) := ⟨by rw [Array.size_setIfInBounds]; exact S.1, fun j x hx hj e he hb => by
          by_cases ej : i = j
          · subst ej
            obtain ⟨_, x', hx', hall⟩ := mem_ready.1 hi'
            rw [hx] at hx'; injection hx' with hx'; subst hx'
            have h3 := at_false.1 (hall e he hb)
            exact at_false.1 (getD_set_true (at_false.2 h3))
          · rw [Array.getElem?_setIfInBounds_ne ej] at hj
            exact at_false.1 (getD_set_true (at_false.2 (S.2 j x hx hj e he hb)))⟩
        rw [hset]
        unfold wpOp at h1 ⊢
        obtain ⟨_, x, hx, _⟩ := mem_ready.1 hi'
        rw [hx] at h1
        rw [Array.getElem?_push, if_neg (by omega), hx]
        simp only [] at h1 ⊢
        rw [if_pos (wanted_none (T.g1 i x hx) _)] at h1 ⊢
        rcases h1 with h1 | ⟨k1, k2⟩
        · exact .inl (wp_post (fun a' w' h' => ih _ a' w' S' h') h1)
        · exact .inr ⟨k1, k2⟩
theorem region_tail2 {id : Nat} {a : Act} {w : World} {S : World → Prop} (hm : P.follows .mixedOrders = true) (hc : tailB2 pre o = true) (hS : S w.drew)
    (h : S w.drew → wpAnyH P .any pre (lastPost P o Q) S pre.size (Array.replicate pre.size false) a w.drew) : (Code.region id (pre.push o) true).wp P Q a w := by
  refine wp_region_any hm ?_
  have T := tail_of2 hc
  have k := any_tail2 (Q := Q) T pre.size (Array.replicate pre.size false) a w.drew ⟨by simp, fun i x hx hi => by
    rw [Array.getElem?_replicate] at hi; split at hi <;> cases hi⟩ (wpAny_of_held _ _ _ _ (h hS))
  rw [Array.size_push]
  have e : (Array.replicate pre.size false).push false = Array.replicate (pre.size + 1) false := by rw [← Array.replicate_succ]
  rw [e] at k
  exact k
theorem region_last2 {id : Nat} {ops : Array Oper} {a : Act} {w : World} {S : World → Prop} (hm : P.follows .mixedOrders = true) (hb : ops.back? = some o) (hp : ops.pop = pre) (hc : tailB2 pre o = true) (hS : S w.drew)
    (h : S w.drew → wpAnyH P .any pre (lastPost P o Q) S pre.size (Array.replicate pre.size false) a w.drew) : (Code.region id ops true).wp P Q a w := by
  have e : ops = pre.push o := by
    rw [← hp]
    have hne : ops ≠ #[] := fun e => by rw [e] at hb; simp at hb
    rw [Array.back?_eq_getElem?] at hb
    obtain ⟨h1, h2⟩ := Array.getElem?_eq_some_iff.1 hb
    rw [← h2]
    refine Array.ext_getElem? fun i => ?_
    rw [Array.getElem?_push, Array.size_pop, Array.getElem?_pop]
    by_cases e1 : i = ops.size - 1
    · rw [if_pos e1, e1, Array.getElem?_eq_getElem h1]
    · rw [if_neg e1]
      split
      · rfl
      · rw [Array.getElem?_eq_none (by omega)]
  rw [e]
  exact region_tail2 hm hc hS h
end
end Go.Proofs.YtcebpbjpbnfacaaGreat
