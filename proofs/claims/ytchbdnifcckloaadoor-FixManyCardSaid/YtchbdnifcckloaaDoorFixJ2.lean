/-
  What All and Any join: a fold of Two.
-/
import Derived.Test.YtchbdnifcckloaaDoorFixJ
import Derived.Test.YtchbdnifcckloaaDoorFixP1
namespace Go.Proofs.YtchbdnifcckloaaDoor
open Go.ChangeShapes Go.WideShapes Go.ChangeAt Go.RowKit
set_option linter.unusedVariables false
attribute [local go_sem ↓] Go.wp_at_zero Go.wp_at_succ

theorem Reach.more {ns l : List Nd} {x z : Int} (h : Reach ns x z) : Reach (ns ++ l) x z := by
  induction h with
  | refl => exact .refl
  | step r hn hp h1 ih => exact .step ih (by rw [nd_append (nd_pos hn).2.1]; exact hn) hp h1
theorem Reach.up {ns : List Nd} {x y z : Int} {n : Nd} (hn : nd ns y = some n) (hx : x = n.a ∨ x = n.b ∨ x = n.c) (h1 : 1 ≤ x) (h : Reach ns x z) : Reach ns y z := by
  induction h with
  | refl => exact .step .refl hn hx h1
  | step r hm hp hq ih => exact .step ih hm hp hq
/-- The value of terms of width 1 that are joined. -/
def jv (op : Int) (V : Int → Int) (z0 : Int) (rest : List Int) : Int := rest.foldl (fun a z => doM op 1 (low 1 a) (low 1 (V z))) (V z0)
structure JR (w wr : World) (tb : Nat) (ns nsk : List Nd) (foot footk : Nat → Prop) (op z0 : Int) (rest : List Int) (k : Nat) (x : Int) : Prop where
  st : MStep k w tb ns foot wr nsk footk
  t : isT nsk x
  w1 : wdt nsk x = 1
  v : ∀ env, V nsk env x = jv op (V ns env) z0 (rest.take k)
  r : ∀ z, z = z0 ∨ z ∈ rest.take k → Reach nsk x z
section
variable {w wr w4 W : World} {tb : Nat} {ns nsk ns' : List Nd} {foot footk foot' : Nat → Prop} {op z0 x y x' : Int} {rest : List Int} {k : Nat}
theorem JR.start (h : Ar w tb ns foot) (ht : isT ns z0) (hw : wdt ns z0 = 1) : JR w w tb ns ns foot foot op z0 rest 0 z0 :=
  ⟨MStep.refl h, ht, hw, fun env => rfl, fun z hz => by
    rcases hz with rfl | hz
    · exact .refl
    · simp at hz⟩
theorem JR.next (R : JR w wr tb ns nsk foot footk op z0 rest k x) (hb : Below wr.heap.size wr W) (ho : op = 4 ∨ op = 5) (hy : rest[k]? = some y) (hyt : isT ns y) (hyc : ¬ isC ns y) (st : Step W tb nsk footk w4 ns' foot') (m : MadeP nsk ⟨op, outV op (wdt nsk x), 0, x, y, 0⟩ x' ns') :
    JR w w4 tb ns ns' foot foot' op z0 rest (k + 1) x' := by
  have htk : rest.take (k + 1) = rest.take k ++ [y] := by rw [List.take_add_one, hy]; rfl
  have hwk := R.st.ar.wf
  obtain ⟨l0, e0⟩ := R.st.ext
  obtain ⟨l1, e1⟩ := st.ext
  have hyt' : isT nsk y := (ext_tr hwk R.st.ext hyt).1
  have hnc : ¬ AllC nsk ⟨op, outV op (wdt nsk x), 0, x, y, 0⟩ 3 := fun h => by
    have := (allC_parts h).2.1 hyt'
    obtain ⟨n, hn, h1⟩ := this
    refine hyc ⟨n, ?_, h1⟩
    rw [e0, nd_append hyt.2] at hn
    exact hn
  have hnd := m.e hnc
  refine ⟨(R.st.ahead hb).trans st.many, m.t, ?_, fun env => ?_, fun z hz => ?_⟩
  · rw [m.w]
    show outV op (wdt nsk x) = 1
    rw [R.w1]; unfold outV; split
    · rfl
    · split <;> rfl
  · rw [m.v env, htk]
    unfold jv
    rw [List.foldl_append]
    show nv (wdt nsk) (V nsk env) env ⟨op, outV op (wdt nsk x), 0, x, y, 0⟩ = doM op 1 (low 1 ((rest.take k).foldl _ (V ns env z0))) (low 1 (V ns env y))
    have hvy : V nsk env y = V ns env y := by rw [e0]; exact V_append (e0 ▸ hwk) env hyt.2
    have hvx := R.v env
    unfold jv at hvx
    unfold nv
    rw [if_neg (by show ¬ op = 1; omega), if_neg (by show ¬ op = 2; omega), if_neg (by show ¬ op = 16; omega), if_neg (by show ¬ (op = 17 ∨ op = 18); omega)]
    show doM op (wdt nsk x) (low (wdt nsk x) (V nsk env x)) (low (wdt nsk x) (V nsk env y)) = _
    rw [R.w1, hvy, hvx]
  · rw [htk] at hz
    have hold : ∀ u, Reach nsk x u → Reach ns' x' u := fun u h => by
      have : Reach ns' x u := by rw [e1]; exact h.more
      exact this.up hnd (.inl rfl) R.t.1
    rcases hz with rfl | hz
    · exact hold _ (R.r _ (.inl rfl))
    · rcases List.mem_append.1 hz with hz | hz
      · exact hold _ (R.r _ (.inr hz))
      · obtain rfl : z = y := by simpa using hz
        exact .step .refl hnd (.inr (.inl rfl)) hyt.1
end
set_option maxHeartbeats 1600000 in
set_option maxRecDepth 100000 in
theorem join1_any (w : World) (ab p q cap : Nat) (ns : List Nd) (foot : Nat → Prop) (op z0 : Int) (rest : List Int) (a : Addr) (h : Ar w ab ns foot) (hp : w.cell? ⟨p, 0, none⟩ = some (.slice (some a) (rest.length + 1) cap)) (hq : w.cell? ⟨q, 0, none⟩ = some (.int .i64 op))
    (hpf : ¬ foot p) (hqf : ¬ foot q) (hpl : p < w.heap.size) (hql : q < w.heap.size) (haf : ¬ foot a.block) (hl : NumsAt .i64 w (some a) (z0 :: rest)) (ho : op = 4 ∨ op = 5) (ht : ∀ z ∈ z0 :: rest, isT ns z ∧ wdt ns z = 1 ∧ ¬ isC ns z) (hroom : ns.length + rest.length ≤ 65536) (hcap : rest.length + 1 ≤ cap) (hcap2 : cap ≤ 9223372036854775807) :
    Calls Tryd.prog 62 #[ptr ab, ptr p, ptr q] w fun e w' => ∃ y : Int, e = .returned (.tuple #[.int .i64 y, .int .i64 0]) ∧ ∃ (ns' : List Nd) (foot' : Nat → Prop), JR w w' ab ns ns' foot foot' op z0 rest rest.length y := by
  have HH := Lib.hid h
  have HL := Lib.hid hl
  have HT := Lib.hid ht
  have HR0 := Lib.hid (JR.start (op := op) (rest := rest) h (ht z0 (by simp)).1 (ht z0 (by simp)).2.1)
  have h0 : w.cell? a = some (.int .i64 z0) := by
    obtain ⟨a', e, hc⟩ := hl.get 0 z0 rfl
    injection e with e; subst e
    have e : a.add 0 = a := by unfold Addr.add; cases a; simp
    rwa [e] at hc
  have hi1 : (1 : Int) ≤ (rest.length : Int) + 1 := by omega
  have hi2 : (0 : Int) < (rest.length : Int) + 1 := by omega
  have HAF := Lib.hid haf
  have HQL := Lib.hid hql
  have HQF := Lib.hid hqf
  have HNM := Lib.hid hl
  clear h hl ht
  by_cases hc1 : cap = 1
  · subst hc1
    have hr0 : rest.length = 0 := by omega
    go_enter Tryd.func62, Tryd.ntmps62
    go_wp2_with fail
    go_loopw [6, 7, 16] (fun xv ev i wr => ∃ (k : Nat) (nsk : List Nd) (footk : Nat → Prop) (x : Int), k ≤ rest.length ∧ i = .int .i64 k ∧ ev = .int .i64 0 ∧ xv = .int .i64 x ∧ JR w wr ab ns nsk foot footk op z0 rest k x) (fun _ _ i _ => rest.length - (intOf i).toNat)
    case atStart => exact ⟨0, ns, foot, z0, Nat.zero_le _, rfl, rfl, rfl, HR0.out⟩
    case round =>
      obtain ⟨k, nsk, footk, x, hk, rfl, rfl, rfl, hrel⟩ := hrel
      have R := Lib.hid hrel
      clear hrel
      by_cases hlt : k < rest.length
      · exact absurd hlt (by omega)
      · obtain rfl : k = rest.length := by omega
        go_wp2_with fail
        go_ret2
        exact ⟨x, rfl, nsk, footk, R.out⟩
  · have hc2 : (cap - 1 == 0) = false := by simp; omega
    have hc3 : ¬ cap - 1 = 0 := by omega
    have HCE : Hid (∀ (k : Nat) (y : Int), rest[k]? = some y → w.cell? ⟨a.block, a.off + 1 + k, none⟩ = some (.int .i64 y)) := fun k y hy => by
      obtain ⟨a', e, hc⟩ := HNM.out.get (k + 1) y (by simpa using hy)
      injection e with e; subst e
      have e : a.add (k + 1) = ⟨a.block, a.off + 1 + k, none⟩ := by unfold Addr.add; simp; omega
      rwa [e] at hc
    go_enter Tryd.func62, Tryd.ntmps62
    go_wp2_with fail
    go_loopw [6, 7, 16] (fun xv ev i wr => ∃ (k : Nat) (nsk : List Nd) (footk : Nat → Prop) (x : Int), k ≤ rest.length ∧ i = .int .i64 k ∧ ev = .int .i64 0 ∧ xv = .int .i64 x ∧ JR w wr ab ns nsk foot footk op z0 rest k x) (fun _ _ i _ => rest.length - (intOf i).toNat)
    case atStart => exact ⟨0, ns, foot, z0, Nat.zero_le _, rfl, rfl, rfl, HR0.out⟩
    case round =>
      obtain ⟨k, nsk, footk, x, hk, rfl, rfl, rfl, hrel⟩ := hrel
      have R := Lib.hid hrel
      clear hrel
      by_cases hlt : k < rest.length
      · obtain ⟨y, hy⟩ : ∃ y, rest[k]? = some y := ⟨_, List.getElem?_eq_getElem hlt⟩
        have hyT := HT.out y (List.mem_cons_of_mem _ (List.mem_of_getElem? hy))
        have hcy : wr.cell? ⟨a.block, a.off + 1 + k, none⟩ = some (.int .i64 y) := (World.cell?_of_block (a := ⟨a.block, a.off + 1 + k, none⟩) (R.out.st.kept.block a.block (HL.out.lt a rfl) HAF.out)).trans (HCE.out k y hy)
        have hcq : wr.cell? ⟨q, 0, none⟩ = some (.int .i64 op) := (World.cell?_of_block (R.out.st.kept.block q HQL.out HQF.out)).trans hq
        have HY := Lib.hid hy
        have HYT := Lib.hid hyT
        have hyt' := ext_tr R.out.st.ar.wf R.out.st.ext hyT.1
        have hyw : wdt nsk y = wdt nsk x := by rw [R.out.w1, ← tr_w R.out.st.ar.wf, hyt'.2, tr_w HH.out.wf]; exact hyT.2.1
        have HTW := Lib.hid (two_yes wr ab nsk footk op x y R.out.st.ar (by have := R.out.st.len; omega) (by omega) (by omega) R.out.t hyt'.1 hyw)
        clear hy hyT hyt' hyw
        go_wp2_with fail
        refine HTW.out.mono ?_
        rintro e w4 ⟨x', rfl, ns', foot', st, m⟩
        have HN := Lib.hid (R.out.next (Below.refl _ _) ho HY.out HYT.out.1 HYT.out.2.2 st m)
        clear st m HTW hcy hcq
        go_wp2_with fail
        go_roundw
        case rel => exact ⟨k + 1, ns', foot', x', by omega, by go_num, rfl, rfl, HN.out⟩
        case measure => simp [intOf]; omega
      · obtain rfl : k = rest.length := by omega
        go_wp2_with fail
        go_ret2
        exact ⟨x, rfl, nsk, footk, R.out⟩
end Go.Proofs.YtchbdnifcckloaaDoor
