/-
  The law TermWidths: made wider and cut again a term has its value; an Ite has that of one of both. No condition.
-/
import Derived.Test.YtfmicchkiegbbaaDoorTermX
import Derived.Test.YtfmicchkiegbbaaDoorCards
import Derived.SevenTiedAt
namespace Go.Proofs.YtfmicchkiegbbaaDoor.termWidths
open Go.ChangeShapes Go.WideShapes Go.ChangeAt Go.RowKit
set_option linter.unusedVariables false

theorem cellsA0 : Tryd.prog.cellsOf 60 = 3 := by kernel_rfl
theorem cellsE0 : Tryd.prog.cellsOf 31 = 1 := by kernel_rfl
theorem list3 {α : Type} (l : List α) (h : (⟨l⟩ : Array α).size = 3) : ∃ v0 v1 v2, l = [v0, v1, v2] := by
  match l, h with | [v0, v1, v2], _ => exact ⟨v0, v1, v2, rfl⟩
theorem list3' {α : Type} (l : List α) (h : l.length = 3) : ∃ v0 v1 v2, l = [v0, v1, v2] := by
  match l, h with | [v0, v1, v2], _ => exact ⟨v0, v1, v2, rfl⟩
theorem shutA0 {H : Type} {enc : TypeId × Value → H} {W : World} {b : Nat} {sp : Nat → Bool} {hd : Bool} {a0_0 a0_1 a0_2 : Int} (w0_0 : (Lit.int .u16 a0_0).wf = true) (w0_1 : (Lit.int .u16 a0_1).wf = true) (w0_2 : (Lit.int .u16 a0_2).wf = true) : DataW.Trod enc Tryd.prog W b sp hd 60 (.agg #[.int .u16 a0_0, .int .u16 a0_1, .int .u16 a0_2]) (.agg [.lit (.int .u16 a0_0), .lit (.int .u16 a0_1), .lit (.int .u16 a0_2)]) [] :=
  ⟨2, by simp [DataW.trod, Value.cells, Tryd.underlying60, Tryd.underlying31, cellsA0, cellsE0, w0_0, w0_1, w0_2, show List.range 3 = [0, 1, 2] from rfl]⟩
def LL (k : Nat) : Int := if k = 0 then 1 else if k = 1 then 8 else 16
theorem LL_may (k : Nat) : mayw (LL k) := by unfold LL; split; exact m1; split; exact m8; exact m16
theorem LL_cell {w : World} {lb : Nat} (h : Has w lb 3 #[.int .i64 1, .int .i64 8, .int .i64 16]) {k : Nat} (hk : k < 3) : w.cell? ⟨lb, k, none⟩ = some (.int .i64 (LL k)) := by
  rw [h.cell]
  have : k = 0 ∨ k = 1 ∨ k = 2 := by omega
  rcases this with rfl | rfl | rfl <;> rfl
theorem EnvAt.alike {w W : World} {A : Option Addr} {env : List Int} (h : EnvAt w A env) (he : W.heap = w.heap) : EnvAt W A env := h.keep (fun a ha => by rw [he]) (by rw [he]; exact Nat.le_refl _)
theorem low_le {a b : Int} (ha : mayw a) (hb : mayw b) (h : a ≤ b) (x : Int) : low a (low b x) = low a x := by
  unfold low
  rcases pw_cases ha with ⟨e, p⟩ | ⟨e, p⟩ | ⟨e, p⟩ <;> rcases pw_cases hb with ⟨f, q⟩ | ⟨f, q⟩ | ⟨f, q⟩ <;> rw [p, q] <;> omega
theorem low_ge {a b : Int} (ha : mayw a) (hb : mayw b) (h : b ≤ a) (x : Int) : low a (low b x) = low b x := by
  unfold low
  rcases pw_cases ha with ⟨e, p⟩ | ⟨e, p⟩ | ⟨e, p⟩ <;> rcases pw_cases hb with ⟨f, q⟩ | ⟨f, q⟩ | ⟨f, q⟩ <;> rw [p, q] <;> omega
/-- What holds at each round's head: the arena, the three widths, the three variables. -/
structure WRel (W0 wr : World) (ab lb : Nat) (ns : List Nd) (k : Nat) (wj x y c : Int) : Prop where
  cur : Cur W0 wr ab ns (fun b => b = lb)
  row : Has wr lb 3 #[.int .i64 1, .int .i64 8, .int .i64 16]
  x : nd ns x = some ⟨2, wj, 0, 0, 0, 0⟩
  y : nd ns y = some ⟨2, wj, 1, 0, 0, 0⟩
  c : nd ns c = some ⟨2, 1, 2, 0, 0, 0⟩
  len : ns.length ≤ 3 + 2 * k
theorem WRel.below {W0 wr w' : World} {ab lb : Nat} {ns : List Nd} {k : Nat} {wj x y c : Int} (h : WRel W0 wr ab lb ns k wj x y c) (b : Below wr.heap.size wr w') : WRel W0 w' ab lb ns k wj x y c :=
  ⟨h.cur.below b, h.row.same (b.block _ h.row.lt), h.x, h.y, h.c, h.len⟩
theorem WRel.alike {W0 wr w' : World} {ab lb : Nat} {ns : List Nd} {k : Nat} {wj x y c : Int} (h : WRel W0 wr ab lb ns k wj x y c) (he : w'.heap = wr.heap) (h1 : w'.os = wr.os) (h2 : w'.tape = wr.tape) (h3 : w'.output = wr.output) : WRel W0 w' ab lb ns k wj x y c :=
  h.below ⟨h1, h2, h3, by rw [he]; exact Nat.le_refl _, fun k _ => by rw [he]⟩
theorem WRel.next {W0 wr w' : World} {ab lb : Nat} {ns ns' : List Nd} {k j : Nat} {wj x y c : Int} (h : WRel W0 wr ab lb ns k wj x y c) (N : Nxt W0 wr ab ns (fun b => b = lb) w' ns') (hl : ns'.length ≤ 3 + 2 * j) : WRel W0 w' ab lb ns' j wj x y c :=
  ⟨N.cur, h.row.same (N.q _ rfl), N.nd h.x, N.nd h.y, N.nd h.c, hl⟩

set_option maxHeartbeats 3200000 in
set_option maxRecDepth 100000 in
theorem walk (a0_0 a0_1 a0_2 : Int) (a1 : Int) (w : World) (w0_0 : (Lit.int .u16 a0_0).wf = true) (w0_1 : (Lit.int .u16 a0_1).wf = true) (w0_2 : (Lit.int .u16 a0_2).wf = true) (w1 : (Lit.int .u8 a1).wf = true) (hT : Tab w) (hpos : 0 < w.heap.size) :
    Calls Tryd.prog 8 #[.agg #[.int .u16 a0_0, .int .u16 a0_1, .int .u16 a0_2], .int .u8 a1] w fun e w' => e = .returned (.bool true) ∧ Below w.heap.size w w' := by
  obtain ⟨n00, n01⟩ := bounds_u16 w0_0
  obtain ⟨n10, n11⟩ := bounds_u16 w0_1
  obtain ⟨n20, n21⟩ := bounds_u16 w0_2
  obtain ⟨b0, b1⟩ := bounds_u8 w1
  have HBX := Lib.hid (Has.new w 60 #[.int .u16 a0_0, .int .u16 a0_1, .int .u16 a0_2])
  have HT1 := Lib.hid (hT.below (((Below.refl w.heap.size w).alloc (Nat.le_refl _) (.cells #[.int .u16 a0_0, .int .u16 a0_1, .int .u16 a0_2] 60))) hpos)
  obtain ⟨j, hj⟩ : ∃ j : Nat, a1 % 3 = (j : Int) := ⟨(a1 % 3).toNat, by omega⟩
  have hj3 : j < 3 := by omega
  have hjt : a1.tmod 3 = (j : Int) := by rw [Int.tmod_eq_emod_of_nonneg b0]; exact hj
  have hj0 : (0 : Int) ≤ (j : Int) := by omega
  have hj1 : (j : Int) < 3 := by omega
  clear w0_0 w0_1 w0_2 w1 hT
  go_enter Tryd.func8, Tryd.ntmps8
  go_wp2_with fail
  refine (awake_any _ HT1.out (by simp)).mono ?_
  rintro e w1 ⟨rfl, hb⟩
  have HB1 := Lib.hid (((Below.refl w.heap.size w).alloc (Nat.le_refl _) _).trans (hb.mono (by simp)))
  have HX1 := Lib.hid (HBX.out.same (hb.block _ HBX.out.lt))
  clear hb
  go_wp2_with fail
  refine (new_any _).mono ?_
  rintro e w2 ⟨rfl, ha, hb⟩
  have HC := Lib.hid (((Cur.of_new ha hb).mine (.cells #[.int .i64 1, .int .i64 8, .int .i64 16] 3)).less (Q' := fun b => b = w2.heap.size) (fun k hk => .inr hk))
  have HLR := Lib.hid (Has.new w2 3 #[.int .i64 1, .int .i64 8, .int .i64 16])
  have hcj := LL_cell HLR.out hj3
  have hl2 : w2.heap.size < w2.heap.size + 1 := by omega
  have hmj := LL_may j
  generalize hwj : LL j = wj at hcj hmj
  have HWJ := Lib.hid hwj
  clear ha hb hwj
  go_wp2_with fail
  refine (l_vari _ _ _ _ _ wj 0 HC.out (by simp) hmj (by decide) (by decide) (fun i m hi => by simp at hi)).mono ?_
  rintro e w3 ⟨x, ns3, rfl, N3, hx3, v3⟩
  have HX3 := Lib.hid hx3
  have HV3 := Lib.hid v3
  have HC3 := Lib.hid N3.cur
  have HR3 := Lib.hid (HLR.out.same (N3.q _ rfl))
  have L3 : Hid (ns3.length ≤ 1) := N3.len
  have hcj3 : w3.cell? ⟨w2.heap.size, j, none⟩ = some (.int .i64 wj) := by rw [← HWJ.out]; exact LL_cell HR3.out hj3
  clear N3 hx3 v3 hcj
  go_wp2_with fail
  refine (l_vari _ _ _ _ _ wj 1 HC3.out (by have := L3.out; omega) hmj (by decide) (by decide) (fun i m hi ho hv => by
    rcases HV3.out i m hi ho with h | h
    · simp at h
    · subst h; simp at hv)).mono ?_
  rintro e w4 ⟨y, ns4, rfl, N4, hy4, v4⟩
  have HX4 := Lib.hid (N4.nd HX3.out)
  have HY4 := Lib.hid hy4
  have HV4 := Lib.hid v4
  have HC4 := Lib.hid N4.cur
  have HR4 := Lib.hid (HR3.out.same (N4.q _ rfl))
  have L4 : Hid (ns4.length ≤ 2) := by have := N4.len; have := L3.out; show ns4.length ≤ 2; omega
  clear N4 hy4 v4 hcj3
  go_wp2_with fail
  refine (l_vari _ _ _ _ _ 1 2 HC4.out (by have := L4.out; omega) m1 (by decide) (by decide) (fun i m hi ho hv => by
    rcases HV4.out i m hi ho with h | h
    · rcases HV3.out i m h ho with h | h
      · simp at h
      · subst h; simp at hv
    · subst h; simp at hv)).mono ?_
  rintro e w5 ⟨c, ns5, rfl, N5, hc5, v5⟩
  have HREL := Lib.hid (show WRel w1 w5 w1.heap.size w2.heap.size ns5 0 wj x y c from ⟨N5.cur, HR4.out.same (N5.q _ rfl), N5.nd HX4.out, N5.nd HY4.out, hc5, by have := N5.len; have := L4.out; omega⟩)
  clear N5 hc5 v5
  have hbn5 : w.heap.size < w5.heap.size := by have := HX1.out.lt; have := HREL.out.cur.below0.size; omega
  go_wp2_with fail
  go_loopw [14] (fun i wr => ∃ (k : Nat) (ns : List Nd), k ≤ 3 ∧ i = .int .i64 k ∧ WRel w1 wr w1.heap.size w2.heap.size ns k wj x y c) (fun i _ => 3 - (intOf i).toNat)
  case atStart => exact ⟨0, ns5, by omega, rfl, HREL.out⟩
  case round =>
    obtain ⟨k, ns, hk, rfl, hrel⟩ := hrel
    have R := Lib.hid hrel
    have hbx : Has wr w.heap.size 60 #[.int .u16 a0_0, .int .u16 a0_1, .int .u16 a0_2] := HX1.out.same (hrel.cur.below0.block _ HX1.out.lt)
    have HBXR := Lib.hid hbx
    have HENV := Lib.hid (env_own hbx [a0_0, a0_1, a0_2] (fun i v hv => by
      match i, hv with
      | 0, hv => simpa using hv
      | 1, hv => simpa using hv
      | 2, hv => simpa using hv) (by simp; omega) (by simp))
    have n0 : wr.cell? ⟨w.heap.size, 0, none⟩ = some (.int .u16 a0_0) := hbx.cell 0
    have n1 : wr.cell? ⟨w.heap.size, 1, none⟩ = some (.int .u16 a0_1) := hbx.cell 1
    have n2 : wr.cell? ⟨w.heap.size, 2, none⟩ = some (.int .u16 a0_2) := hbx.cell 2
    have cj : wr.cell? ⟨w2.heap.size, j, none⟩ = some (.int .i64 wj) := by rw [← HWJ.out]; exact LL_cell hrel.row hj3
    have ENVF := fun (W : World) (h : Has W w.heap.size 60 #[.int .u16 a0_0, .int .u16 a0_1, .int .u16 a0_2]) => env_own h [a0_0, a0_1, a0_2] (fun i v hv => by
      match i, hv with
      | 0, hv => simpa using hv
      | 1, hv => simpa using hv
      | 2, hv => simpa using hv) (by simp; omega) (by simp)
    clear hrel hbx
    by_cases hlt : k < 3
    · have ck := LL_cell R.out.row hlt
      have hk0 : (0 : Int) ≤ (k : Int) := by omega
      have hk1 : (k : Int) < 3 := by omega
      have hmk := LL_may k
      generalize hlk : LL k = lk at ck hmk
      have HLK := Lib.hid hlk
      clear hlk
      by_cases hcmp : lk < wj
      · go_wp2_with fail
        go_quiet (fail)
        go_wp2_with fail
        refine (l_cut w1 _ w1.heap.size ns (fun b => b = w2.heap.size) lk x (by exact R.out.cur.alike rfl rfl rfl rfl) (by have := R.out.len; omega) hmk (isT_nd R.out.x) (by rw [wdt_of R.out.x]; exact Int.le_of_lt hcmp)).mono ?_
        rintro e w6 ⟨t, ns6, rfl, N6, ht6⟩
        have HTW := Lib.hid ht6.w
        have HTV : Hid (V ns6 [a0_0, a0_1, a0_2] t = low lk a0_0) := by
          show V ns6 [a0_0, a0_1, a0_2] t = low lk a0_0
          rw [ht6.v, V_var R.out.cur.wf _ R.out.x]
          exact low_le hmk hmj (Int.le_of_lt hcmp) a0_0
        have R := Lib.hid (WRel.next (j := k + 1) (by exact R.out.alike rfl rfl rfl rfl) N6 (by have := N6.len; have := R.out.len; omega))
        have HE := fun (W : World) (C : Cur w1 W w1.heap.size ns6 (fun b => b = w2.heap.size)) => Lib.hid (r_eval C (some ⟨w.heap.size, 0, none⟩) 3 [a0_0, a0_1, a0_2] t (ENVF W (HX1.out.same (C.below0.block _ HX1.out.lt))))
        rw [HTV.out] at HE
        have HW := fun (W : World) (C : Cur w1 W w1.heap.size ns6 (fun b => b = w2.heap.size)) => Lib.hid (r_width C t)
        rw [HTW.out] at HW
        have f0 : w6.cell? ⟨w.heap.size, 0, none⟩ = some (.int .u16 a0_0) := (HX1.out.same (R.out.cur.below0.block _ HX1.out.lt)).cell 0
        have f1 : w6.cell? ⟨w2.heap.size, k, none⟩ = some (.int .i64 lk) := by rw [← HLK.out]; exact LL_cell R.out.row hlt
        have HM := Lib.hid hmk
        have hbits : bits .and .u16 a0_0 (mask lk) = low lk a0_0 := u16_mask hmk a0_0 n00 n01
        clear N6 ht6
        generalize low lk a0_0 = r at HE hbits
        go_wp2_with fail
        go_region_held3 (fun w' => w'.cell? ⟨w.heap.size, 0, none⟩ = some (.int .u16 a0_0) ∧ w'.cell? ⟨w2.heap.size, k, none⟩ = some (.int .i64 lk)) (go_keep) (first | (go_at_call_of 13 (Value.int IntKind.i64 t); refine (HE _ (by exact R.out.cur.alike rfl rfl rfl rfl)).out.mono ?_; rintro e we ⟨rfl, hb⟩; have R := Lib.hid (WRel.below (by exact R.out.alike rfl rfl rfl rfl) hb); have f0 : we.cell? ⟨w.heap.size, 0, none⟩ = some (.int .u16 a0_0) := (HX1.out.same (R.out.cur.below0.block _ HX1.out.lt)).cell 0; have f1 : we.cell? ⟨w2.heap.size, k, none⟩ = some (.int .i64 lk) := (by rw [← HLK.out]; exact LL_cell R.out.row hlt); have f2 : we.cell? ⟨w2.heap.size, j, none⟩ = some (.int .i64 wj) := (by rw [← HWJ.out]; exact LL_cell R.out.row hj3); clear hb) | (go_at_call 22; refine (HW _ (by exact R.out.cur.alike rfl rfl rfl rfl)).out.mono ?_; rintro e we ⟨rfl, hb⟩; have R := Lib.hid (WRel.below (by exact R.out.alike rfl rfl rfl rfl) hb); have f0 : we.cell? ⟨w.heap.size, 0, none⟩ = some (.int .u16 a0_0) := (HX1.out.same (R.out.cur.below0.block _ HX1.out.lt)).cell 0; have f1 : we.cell? ⟨w2.heap.size, k, none⟩ = some (.int .i64 lk) := (by rw [← HLK.out]; exact LL_cell R.out.row hlt); have f2 : we.cell? ⟨w2.heap.size, j, none⟩ = some (.int .i64 wj) := (by rw [← HWJ.out]; exact LL_cell R.out.row hj3); clear hb) | (go_at_call 26; refine (rmask_yes _ _ HM.out).mono ?_; rintro e w' ⟨rfl, rfl⟩))
        go_wp2
        go_roundw
        case rel => exact ⟨k + 1, ns6, by omega, by go_num, by exact R.out.alike rfl rfl rfl rfl⟩
        case measure => simp [intOf]; omega
      · have hcmp' : wj ≤ lk := by omega
        clear hcmp
        go_wp2_with fail
        go_quiet (fail)
        go_wp2_with fail
        refine (l_ext w1 _ w1.heap.size ns (fun b => b = w2.heap.size) lk x (by exact R.out.cur.alike rfl rfl rfl rfl) (by have := R.out.len; omega) hmk (isT_nd R.out.x) (by rw [wdt_of R.out.x]; exact hcmp')).mono ?_
        rintro e w6 ⟨t, ns6, rfl, N6, ht6⟩
        have HTW := Lib.hid ht6.w
        have HTT := Lib.hid ht6.t
        have HTV : Hid (V ns6 [a0_0, a0_1, a0_2] t = low wj a0_0) := by
          show V ns6 [a0_0, a0_1, a0_2] t = low wj a0_0
          rw [ht6.v, V_var R.out.cur.wf _ R.out.x]
          exact low_ge hmk hmj hcmp' a0_0
        have HL6 : Hid (ns6.length ≤ 3 + 2 * k + 1) := by have := N6.len; have := R.out.len; show ns6.length ≤ 3 + 2 * k + 1; omega
        have R := Lib.hid (WRel.next (j := k + 1) (by exact R.out.alike rfl rfl rfl rfl) N6 (by have := N6.len; have := R.out.len; omega))
        have f2 : w6.cell? ⟨w2.heap.size, j, none⟩ = some (.int .i64 wj) := by rw [← HWJ.out]; exact LL_cell R.out.row hj3
        clear N6 ht6
        go_wp2_with fail
        refine (l_cut w1 _ w1.heap.size ns6 (fun b => b = w2.heap.size) wj t R.out.cur (by have := HL6.out; omega) hmj HTT.out (by rw [HTW.out]; exact hcmp')).mono ?_
        rintro e w7 ⟨u, ns7, rfl, N7, hu7⟩
        have HUV : Hid (V ns7 [a0_0, a0_1, a0_2] u = low wj a0_0) := by
          show V ns7 [a0_0, a0_1, a0_2] u = low wj a0_0
          rw [hu7.v, HTV.out, low_low hmj]
        have HTV := Lib.hid ((N7.V [a0_0, a0_1, a0_2] HTT.out).trans HTV.out)
        have HTW := Lib.hid ((N7.wdt HTT.out).trans HTW.out)
        have R := Lib.hid (WRel.next (j := k + 1) R.out N7 (by have := N7.len; have := HL6.out; omega))
        have HXV : Hid (V ns7 [a0_0, a0_1, a0_2] x = low wj a0_0) := V_var R.out.cur.wf _ R.out.x
        have HEU := fun (W : World) (C : Cur w1 W w1.heap.size ns7 (fun b => b = w2.heap.size)) => Lib.hid (r_eval C (some ⟨w.heap.size, 0, none⟩) 3 [a0_0, a0_1, a0_2] u (ENVF W (HX1.out.same (C.below0.block _ HX1.out.lt))))
        have HET := fun (W : World) (C : Cur w1 W w1.heap.size ns7 (fun b => b = w2.heap.size)) => Lib.hid (r_eval C (some ⟨w.heap.size, 0, none⟩) 3 [a0_0, a0_1, a0_2] t (ENVF W (HX1.out.same (C.below0.block _ HX1.out.lt))))
        have HEX := fun (W : World) (C : Cur w1 W w1.heap.size ns7 (fun b => b = w2.heap.size)) => Lib.hid (r_eval C (some ⟨w.heap.size, 0, none⟩) 3 [a0_0, a0_1, a0_2] x (ENVF W (HX1.out.same (C.below0.block _ HX1.out.lt))))
        rw [HUV.out] at HEU
        rw [HTV.out] at HET
        rw [HXV.out] at HEX
        have HW := fun (W : World) (C : Cur w1 W w1.heap.size ns7 (fun b => b = w2.heap.size)) => Lib.hid (r_width C t)
        rw [HTW.out] at HW
        have f0 : w7.cell? ⟨w.heap.size, 0, none⟩ = some (.int .u16 a0_0) := (HX1.out.same (R.out.cur.below0.block _ HX1.out.lt)).cell 0
        have f1 : w7.cell? ⟨w2.heap.size, k, none⟩ = some (.int .i64 lk) := by rw [← HLK.out]; exact LL_cell R.out.row hlt
        have f2 : w7.cell? ⟨w2.heap.size, j, none⟩ = some (.int .i64 wj) := by rw [← HWJ.out]; exact LL_cell R.out.row hj3
        have HM := Lib.hid hmj
        have hbits : bits .and .u16 a0_0 (mask wj) = low wj a0_0 := u16_mask hmj a0_0 n00 n01
        clear N7 hu7
        generalize low wj a0_0 = r at HEU HET HEX hbits
        go_wp2_with fail
        go_region_held3 (fun w' => w'.cell? ⟨w.heap.size, 0, none⟩ = some (.int .u16 a0_0) ∧ w'.cell? ⟨w2.heap.size, k, none⟩ = some (.int .i64 lk) ∧ w'.cell? ⟨w2.heap.size, j, none⟩ = some (.int .i64 wj)) (go_keep) (first | (go_at_call_of 13 (Value.int IntKind.i64 u); refine (HEU _ (by exact R.out.cur.alike rfl rfl rfl rfl)).out.mono ?_; rintro e we ⟨rfl, hb⟩; have R := Lib.hid (WRel.below (by exact R.out.alike rfl rfl rfl rfl) hb); have f0 : we.cell? ⟨w.heap.size, 0, none⟩ = some (.int .u16 a0_0) := (HX1.out.same (R.out.cur.below0.block _ HX1.out.lt)).cell 0; have f1 : we.cell? ⟨w2.heap.size, k, none⟩ = some (.int .i64 lk) := (by rw [← HLK.out]; exact LL_cell R.out.row hlt); have f2 : we.cell? ⟨w2.heap.size, j, none⟩ = some (.int .i64 wj) := (by rw [← HWJ.out]; exact LL_cell R.out.row hj3); clear hb) | (go_at_call_of 13 (Value.int IntKind.i64 t); refine (HET _ (by exact R.out.cur.alike rfl rfl rfl rfl)).out.mono ?_; rintro e we ⟨rfl, hb⟩; have R := Lib.hid (WRel.below (by exact R.out.alike rfl rfl rfl rfl) hb); have f0 : we.cell? ⟨w.heap.size, 0, none⟩ = some (.int .u16 a0_0) := (HX1.out.same (R.out.cur.below0.block _ HX1.out.lt)).cell 0; have f1 : we.cell? ⟨w2.heap.size, k, none⟩ = some (.int .i64 lk) := (by rw [← HLK.out]; exact LL_cell R.out.row hlt); have f2 : we.cell? ⟨w2.heap.size, j, none⟩ = some (.int .i64 wj) := (by rw [← HWJ.out]; exact LL_cell R.out.row hj3); clear hb) | (go_at_call_of 13 (Value.int IntKind.i64 x); refine (HEX _ (by exact R.out.cur.alike rfl rfl rfl rfl)).out.mono ?_; rintro e we ⟨rfl, hb⟩; have R := Lib.hid (WRel.below (by exact R.out.alike rfl rfl rfl rfl) hb); have f0 : we.cell? ⟨w.heap.size, 0, none⟩ = some (.int .u16 a0_0) := (HX1.out.same (R.out.cur.below0.block _ HX1.out.lt)).cell 0; have f1 : we.cell? ⟨w2.heap.size, k, none⟩ = some (.int .i64 lk) := (by rw [← HLK.out]; exact LL_cell R.out.row hlt); have f2 : we.cell? ⟨w2.heap.size, j, none⟩ = some (.int .i64 wj) := (by rw [← HWJ.out]; exact LL_cell R.out.row hj3); clear hb) | (go_at_call 22; refine (HW _ (by exact R.out.cur.alike rfl rfl rfl rfl)).out.mono ?_; rintro e we ⟨rfl, hb⟩; have R := Lib.hid (WRel.below (by exact R.out.alike rfl rfl rfl rfl) hb); have f0 : we.cell? ⟨w.heap.size, 0, none⟩ = some (.int .u16 a0_0) := (HX1.out.same (R.out.cur.below0.block _ HX1.out.lt)).cell 0; have f1 : we.cell? ⟨w2.heap.size, k, none⟩ = some (.int .i64 lk) := (by rw [← HLK.out]; exact LL_cell R.out.row hlt); have f2 : we.cell? ⟨w2.heap.size, j, none⟩ = some (.int .i64 wj) := (by rw [← HWJ.out]; exact LL_cell R.out.row hj3); clear hb) | (go_at_call 26; refine (rmask_yes _ _ HM.out).mono ?_; rintro e w' ⟨rfl, rfl⟩))
        go_wp2
        go_roundw
        case rel => exact ⟨k + 1, ns7, by omega, by go_num, by exact R.out.alike rfl rfl rfl rfl⟩
        case measure => simp [intOf]; omega
    · obtain rfl : k = 3 := by omega
      go_wp2_with fail
      refine (l_ite w1 _ w1.heap.size ns (fun b => b = w2.heap.size) c x y R.out.cur (by have := R.out.len; omega) (isT_nd R.out.c) (isT_nd R.out.x) (isT_nd R.out.y) (wdt_of R.out.c) ((wdt_of R.out.y).trans (wdt_of R.out.x).symm)).mono ?_
      rintro e w6 ⟨t, ns6, rfl, N6, ht6⟩
      have HV6 : Hid (V ns6 [a0_0, a0_1, a0_2] t = if low 1 a0_2 = 1 then low wj a0_0 else low wj a0_1) := by
        show V ns6 [a0_0, a0_1, a0_2] t = _
        rw [ht6.v, V_var R.out.cur.wf _ R.out.c, V_var R.out.cur.wf _ R.out.x, V_var R.out.cur.wf _ R.out.y]
        rfl
      have R := Lib.hid (WRel.next (j := 4) R.out N6 (by have := N6.len; have := R.out.len; omega))
      have n0 : w6.cell? ⟨w.heap.size, 0, none⟩ = some (.int .u16 a0_0) := (HX1.out.same (R.out.cur.below0.block _ HX1.out.lt)).cell 0
      have n1 : w6.cell? ⟨w.heap.size, 1, none⟩ = some (.int .u16 a0_1) := (HX1.out.same (R.out.cur.below0.block _ HX1.out.lt)).cell 1
      have n2 : w6.cell? ⟨w.heap.size, 2, none⟩ = some (.int .u16 a0_2) := (HX1.out.same (R.out.cur.below0.block _ HX1.out.lt)).cell 2
      have f2 : w6.cell? ⟨w2.heap.size, j, none⟩ = some (.int .i64 wj) := by rw [← HWJ.out]; exact LL_cell R.out.row hj3
      have h1 : bits .and .u16 a0_2 1 = low 1 a0_2 := u16_mask m1 a0_2 n20 n21
      clear N6 ht6
      by_cases hc : low 1 a0_2 = 1
      · rw [if_pos hc] at HV6
        have hb1 : (low 1 a0_2 == 1) = true := by simpa using hc
        clear hc
        have HM := Lib.hid hmj
        have hbits : bits .and .u16 a0_0 (mask wj) = low wj a0_0 := u16_mask hmj a0_0 n00 n01
        have HE := fun (W : World) (C : Cur w1 W w1.heap.size ns6 (fun b => b = w2.heap.size)) => Lib.hid (r_eval C (some ⟨w.heap.size, 0, none⟩) 3 [a0_0, a0_1, a0_2] t (ENVF W (HX1.out.same (C.below0.block _ HX1.out.lt))))
        rw [HV6.out] at HE
        generalize low wj a0_0 = r at HE hbits
        go_wp2_with fail
        go_region_held3 (fun w' => w'.cell? ⟨w2.heap.size, j, none⟩ = some (.int .i64 wj)) (go_keep) (first | (go_at_call 13; refine (HE _ (by exact R.out.cur.alike rfl rfl rfl rfl)).out.mono ?_; rintro e we ⟨rfl, hb⟩; have R := Lib.hid (WRel.below (by exact R.out.alike rfl rfl rfl rfl) hb); have f2 : we.cell? ⟨w2.heap.size, j, none⟩ = some (.int .i64 wj) := (by rw [← HWJ.out]; exact LL_cell R.out.row hj3); clear hb) | (go_at_call 26; refine (rmask_yes _ _ HM.out).mono ?_; rintro e w' ⟨rfl, rfl⟩))
        go_wp2
        go_ret
        exact ⟨by simp, HB1.out.trans ((R.out.alike rfl rfl rfl rfl).cur.below0.mono HB1.out.size)⟩
      · rw [if_neg hc] at HV6
        have hb1 : (low 1 a0_2 == 1) = false := by simpa using hc
        clear hc
        have HM := Lib.hid hmj
        have hbits : bits .and .u16 a0_1 (mask wj) = low wj a0_1 := u16_mask hmj a0_1 n10 n11
        have HE := fun (W : World) (C : Cur w1 W w1.heap.size ns6 (fun b => b = w2.heap.size)) => Lib.hid (r_eval C (some ⟨w.heap.size, 0, none⟩) 3 [a0_0, a0_1, a0_2] t (ENVF W (HX1.out.same (C.below0.block _ HX1.out.lt))))
        rw [HV6.out] at HE
        generalize low wj a0_1 = r at HE hbits
        go_wp2_with fail
        go_region_held3 (fun w' => w'.cell? ⟨w2.heap.size, j, none⟩ = some (.int .i64 wj)) (go_keep) (first | (go_at_call 13; refine (HE _ (by exact R.out.cur.alike rfl rfl rfl rfl)).out.mono ?_; rintro e we ⟨rfl, hb⟩; have R := Lib.hid (WRel.below (by exact R.out.alike rfl rfl rfl rfl) hb); have f2 : we.cell? ⟨w2.heap.size, j, none⟩ = some (.int .i64 wj) := (by rw [← HWJ.out]; exact LL_cell R.out.row hj3); clear hb) | (go_at_call 26; refine (rmask_yes _ _ HM.out).mono ?_; rintro e w' ⟨rfl, rfl⟩))
        go_wp2
        go_ret
        exact ⟨by simp, HB1.out.trans ((R.out.alike rfl rfl rfl rfl).cur.below0.mono HB1.out.size)⟩

set_option maxRecDepth 100000 in
theorem lifted (os : Os) (started : os.Started) (H : Type) (enc : TypeId × Value → H) :
    ReturnsInHanded {} Tryd.checked os 8 .any (fun w args => (Rows.termWidthsSpec.pre enc Tryd.prog Tryd.f8 [] false w args ∧ laidMetH Tryd.prog laidTab w) ∧ sizedMet enc Tryd.prog Tryd.f8 (OpenSpec.ofChange Rows.termWidthsSpec) false w args)
      (Rows.termWidthsSpec.post enc Tryd.prog Tryd.f8 false true false false) := by
  refine returnsInHanded_of_change_and (C := Tryd.checked) (X := fun w _ => laidMetH Tryd.prog laidTab w) (fun _ _ _ hh h => h.of_heap hh) ownDoor started (by kernel_rfl) Tryd.func8
    (ChangeSpec.witness_shaped (enc := enc) (C := Tryd.checked) (os := os) (X := fun w _ => laidMetH Tryd.prog laidTab w) false (World.doorLaid Tryd.prog 400 os) #[.agg #[.int .u16 0, .int .u16 0, .int .u16 0], .int .u8 0] 8 rfl (World.shaped_of_RefB (by kernel_rfl) (by kernel_rfl)) (by kernel_rfl) (by kernel_rfl) (by kernel_rfl) (door_met os _)) ?_
  intro W base args ds gs before hval0 hW _ hsz hL _
  have hval : ∀ (j : Nat) t v, Tryd.f8.params[j]? = some t → args[j]? = some v → Value.okWide Tryd.prog W .any base t v := hval0
  have hW' := hW
  obtain ⟨p, q, hA0, hV, rfl, hfz, hnd⟩ := hW
  have hA : DataW.TrodAll enc Tryd.prog W 0 (fun _ => true) true Tryd.f8.params.toList args.toList ds p := hA0
  rw [Tryd.params8] at hA hval
  obtain ⟨v0, vs0, d0, ds0, p0, q0, hargs, rfl, rfl, h0, r0⟩ := trodAll_cons hA
  obtain ⟨v1, vs1, d1, ds1, p1, q1, rfl, rfl, rfl, h1, r1⟩ := trodAll_cons r0
  obtain ⟨rfl, rfl, rfl⟩ := trodAll_nil r1
  obtain rfl : args = #[v0, v1] := by cases args; simp_all
  obtain ⟨rfl, rfl⟩ := trodVars_none hV
  obtain ⟨cs0, rfl, hsz0, _⟩ : ∃ cs, v0 = .agg cs ∧ cs.size = Tryd.prog.cellsOf 60 ∧ Row.okWide Tryd.prog W .any base 60 cs := by
    have := hval 0 60 v0 rfl rfl
    simpa [Value.okWide, Tryd.underlying60] using this
  rw [cellsA0] at hsz0
  obtain ⟨l0⟩ := cs0
  obtain ⟨c0_0, c0_1, c0_2, rfl⟩ := list3 l0 hsz0
  obtain ⟨fuel0, hf0⟩ := h0
  obtain ⟨xs0, m0, _, hx0, _, hl0, hel0⟩ := DataW.trod_array Tryd.underlying60 hf0
  obtain ⟨y0_0, y0_1, y0_2, rfl⟩ := list3' xs0 hl0
  obtain ⟨a0_0, e0_0, ey0_0, w0_0⟩ := DataW.trod_int Tryd.underlying31 (by simpa [cellsE0, Value.cells] using hel0 0 (by decide))
  obtain ⟨a0_1, e0_1, ey0_1, w0_1⟩ := DataW.trod_int Tryd.underlying31 (by simpa [cellsE0, Value.cells] using hel0 1 (by decide))
  obtain ⟨a0_2, e0_2, ey0_2, w0_2⟩ := DataW.trod_int Tryd.underlying31 (by simpa [cellsE0, Value.cells] using hel0 2 (by decide))
  simp at e0_0 e0_1 e0_2
  subst e0_0 e0_1 e0_2
  subst ey0_0 ey0_1 ey0_2
  simp only [List.map, List.flatMap_cons, List.flatMap_nil, List.append_nil, Prod.mk.injEq] at hx0
  obtain ⟨rfl, rfl⟩ := hx0
  obtain ⟨a1, rfl, rfl, rfl, w1⟩ := open_int Tryd.underlying5 (hval 1 5 v1 rfl rfl) h1
  obtain ⟨hT, hpos⟩ := of_laid hL
  clear hA0 hval0
  simp only [List.append_nil] at hW'
  refine (walk a0_0 a0_1 a0_2 a1 W w0_0 w0_1 w0_2 w1 hT hpos).mono fun e W' ⟨he, hg⟩ => ?_
  subst he
  exact ⟨_, rfl, post_kept (pa := []) (pv := []) hW' hg (fun _ _ _ => (trodAll_cons_mk (shut_bool Tryd.underlying4 _) trodAll_mk0)) (fun sp hsp => (trodAll_cons_mk (shutA0 w0_0 w0_1 w0_2) (trodAll_cons_mk (shut_int Tryd.underlying5 w1) trodAll_mk0))) (fun _ _ => rfl) rfl
    (ok_one (by kernel_rfl) rfl (okWide_bool_mk Tryd.underlying4 _))⟩

theorem over : Rows.TermWidthsSaid :=
  OpenClaim.holds_of_wide 8 Tryd.f8 rfl rfl rfl rfl rfl rfl rfl ⟨rfl, rfl, rfl, rfl, rfl⟩ rfl rfl rfl rfl rfl (by kernel_rfl) Tryd.func8 (by kernel_rfl)
    (of_decide_eq_true (by kernel_rfl)) (by unfold Func.isWrapper; first | (rw [if_pos (by decide +kernel)]; kernel_rfl) | (rw [if_neg (by decide +kernel)]; exact ⟨rfl, rfl⟩))
    (fun os started H enc _ => lifted os started H enc)

theorem proved : Rows.TermWidthsCardSaid :=
  Claim7.holds_tied_plain_at .later [] [.data] true _ false
    over (fun _ h => by cases h) (by kernel_rfl) (fun _ h => by cases h) termWidths_row_tie rfl ⟨rfl, rfl⟩ (by kernel_rfl) rfl
    (fun f fn hf hfn => by
      obtain rfl : f = 8 := Option.some.inj ((show Tryd.prog.funcNamed "crossroads/crossroadslaw2.TermWidths" = some 8 by kernel_rfl).symm.trans hf) |>.symm
      obtain rfl : fn = Tryd.f8 := (Option.some.inj (Tryd.func8.symm.trans hfn)).symm
      exact ⟨by kernel_rfl, fun j t ht => by
        rw [Tryd.params8] at ht
        have hm : t ∈ ([60, 5] : List TypeId) := by simpa using Array.mem_of_getElem? ht
        have hall : (([60, 5] : List TypeId).all fun u => !Tryd.prog.wantsStandIn u) = true := by kernel_rfl
        exact (show Tryd.prog.wantsStandIn t = false by simpa using List.all_eq_true.1 hall t hm)⟩)
    (by kernel_rfl)
#print axioms proved
end Go.Proofs.YtfmicchkiegbbaaDoor.termWidths
