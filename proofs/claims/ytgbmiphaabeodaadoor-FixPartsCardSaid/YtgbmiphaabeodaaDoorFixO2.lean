/-
  over of package fix: the terms of a list once more, in another arena.
-/
import Derived.Test.YtgbmiphaabeodaaDoorFixV
import Derived.BigRegion
import Derived.LoopTactic
import Derived.RegionTactic
import Derived.Deep.DeepCutAuto
import Derived.ChangeAlike
namespace Go.Proofs.YtgbmiphaabeodaaDoor
open Go.ChangeShapes Go.WideShapes Go.ChangeAt Go.RowKit Go.Maps
set_option linter.unusedVariables false
attribute [local go_sem ↓] Go.wp_at_zero Go.wp_at_succ

theorem makeMTT (w : World) (n : Int) : (Instr.makeMap 119 (some (.int .i64 n))).run Tryd.prog w = .ok (.map (some w.heap.size)) (w.alloc (.map #[] 0)) := by
  simp [Instr.makeMap, run_underlying Tryd.underlying119, asInt, asIntOf, Result.andThen]
/-- The map at b is as it was in V. -/
def FM (V : World) (b : Nat) (W : World) : Prop := W.heap[b]? = V.heap[b]?
/-- What over answers. -/
def OvPost (w : World) (tb : Nat) (nsF ns : List Nd) (foot : Nat → Prop) (g : Nat → Option Int) (ls : List Int) (e : Ending) (w' : World) : Prop :=
  ∃ (y : Int) (ns' : List Nd) (foot' : Nat → Prop) (mb : Nat) (f : Int → Option Int), e = .returned (.tuple #[.int .i64 y, .int .i64 0]) ∧ OvR w w' tb mb nsF ns ns' foot foot' g ls ls.length y f
set_option maxHeartbeats 1600000 in
set_option maxRecDepth 100000 in
theorem over_any (w : World) (fb tb gb : Nat) (nsF ns : List Nd) (footF foot : Nat → Prop) (g : Nat → Option Int) (A : Option Addr) (ls : List Int) (cap : Nat) (I : OvIn w fb tb gb nsF ns footF foot g A ls) (hcap : ls.length ≤ cap) (hc : cap ≤ 9223372036854775807) :
    Calls Tryd.prog 47 #[ptr fb, ptr tb, .slice A ls.length cap, ptr gb] w (OvPost w tb nsF ns foot g ls) := by
  have HI := Lib.hid I
  have HL := Lib.hid I.room
  have hll : (ls.length : Int) ≤ 65536 := by have := I.room; omega
  have hmm := makeMTT
  clear I
  go_enter Tryd.func47, Tryd.ntmps47
  go_wp2_with fail
  go_loopw [11, 23] (fun la i wr => ∃ (k : Nat) (nsk : List Nd) (footk : Nat → Prop) (last : Int) (f : Int → Option Int), k ≤ ls.length ∧ i = .int .i64 k ∧ la = .int .i64 last ∧ OvR w wr tb w.heap.size nsF ns nsk foot footk g ls k last f) (fun _ i _ => ls.length - (intOf i).toNat)
  case atStart => exact ⟨0, ns, foot, 0, _, Nat.zero_le _, rfl, rfl, OvR.start HI.out⟩
  case round =>
    obtain ⟨k, nsk, footk, last, f, hk, rfl, rfl, hrel⟩ := hrel
    have R := Lib.hid hrel
    clear hrel
    by_cases hlt : k < ls.length
    · obtain ⟨z, hz⟩ : ∃ z, ls[k]? = some z := ⟨_, List.getElem?_eq_getElem hlt⟩
      have hzt := HI.out.all z (List.mem_of_getElem? hz)
      obtain ⟨n, hn, _⟩ := nd_some hzt
      obtain ⟨a, rfl, hca, hab⟩ := R.out.cell HI.out hz
      have HND := Lib.hid (node_yes wr fb nsF footF z n (R.out.ofrom HI.out) hn)
      have HZ := Lib.hid hz
      have HN := Lib.hid hn
      clear hz hn hzt
      go_wp2_with fail
      refine HND.out.mono ?_
      rintro e w2 ⟨rfl, hb⟩
      have HB2 := Lib.hid hb
      clear hb HND
      have HLK := Lib.hid (fun (W : World) (hW : FM wr w.heap.size W) (p : Int) (h0 : 0 ≤ p) (h1 : p ≤ 65536) => (R.out.made.same (W' := W) hW).look (z := p) (WalkArith.wf_i64 (by omega)))
      have HF3 : Hid (∀ x y v : Value, FM wr w.heap.size (w2.alloc (.cells #[.int .i64 n.op, .int .i64 n.w, .int .u16 n.val, x, y, v] 85)).drew) := fun x y v => (alloc_other (Nat.lt_of_lt_of_le R.out.made.lt HB2.out.size)).trans (HB2.out.block _ R.out.made.lt)
      obtain ⟨HPa, HPb, HPc⟩ : Hid (0 ≤ n.a ∧ n.a ≤ 65536) ∧ Hid (0 ≤ n.b ∧ n.b ≤ 65536) ∧ Hid (0 ≤ n.c ∧ n.c ≤ 65536) := by
        have hb := HI.out.f.wf.below HN.out
        have hz := (nd_pos HN.out).2.1
        have hs := HI.out.f.sz
        exact ⟨⟨by omega, by omega⟩, ⟨by omega, by omega⟩, ⟨by omega, by omega⟩⟩
      have ka : ∀ x y v : Value, (Instr.lookup 119 (.map (some w.heap.size)) (.int .i64 n.a) false).run Tryd.prog (w2.alloc (.cells #[.int .i64 n.op, .int .i64 n.w, .int .u16 n.val, x, y, v] 85)).drew = .ok (.int .i64 ((f n.a).getD 0)) (w2.alloc (.cells #[.int .i64 n.op, .int .i64 n.w, .int .u16 n.val, x, y, v] 85)).drew := fun x y v => HLK.out _ (HF3.out x y v) _ HPa.out.1 HPa.out.2
      have kb : ∀ x y v : Value, (Instr.lookup 119 (.map (some w.heap.size)) (.int .i64 n.b) false).run Tryd.prog (w2.alloc (.cells #[.int .i64 n.op, .int .i64 n.w, .int .u16 n.val, x, y, v] 85)).drew = .ok (.int .i64 ((f n.b).getD 0)) (w2.alloc (.cells #[.int .i64 n.op, .int .i64 n.w, .int .u16 n.val, x, y, v] 85)).drew := fun x y v => HLK.out _ (HF3.out x y v) _ HPb.out.1 HPb.out.2
      have kc : ∀ x y v : Value, (Instr.lookup 119 (.map (some w.heap.size)) (.int .i64 n.c) false).run Tryd.prog (w2.alloc (.cells #[.int .i64 n.op, .int .i64 n.w, .int .u16 n.val, x, y, v] 85)).drew = .ok (.int .i64 ((f n.c).getD 0)) (w2.alloc (.cells #[.int .i64 n.op, .int .i64 n.w, .int .u16 n.val, x, y, v] 85)).drew := fun x y v => HLK.out _ (HF3.out x y v) _ HPc.out.1 HPc.out.2
      go_wp2_with fail
      have HAG := Lib.hid (fun (W : World) (hb : Below wr.heap.size wr W) => again_any (R.out.agIn HI.out hb HZ.out HN.out))
      generalize (f n.a).getD 0 = a' at ka HAG
      generalize (f n.b).getD 0 = b' at kb HAG
      generalize (f n.c).getD 0 = c' at kc HAG
      go_region
      have hb3 : Below wr.heap.size wr (w2.alloc (.cells #[.int .i64 n.op, .int .i64 n.w, .int .u16 n.val, .int .i64 a', .int .i64 b', .int .i64 c'] 85)).drew := below_alike3 (HB2.out.alloc HB2.out.size _) rfl rfl rfl rfl
      have HB3 := Lib.hid hb3
      clear hb3 ka kb kc
      go_wp2_with fail
      refine Calls.mono (HAG.out _ (by exact HB3.out)) ?_
      rintro e w4 ⟨y, rfl, ns', foot', st, tp, hv⟩
      have HST := Lib.hid st
      rw [← tr_of HI.out.f.wf HN.out] at tp
      have HTP := Lib.hid tp
      have HV := Lib.hid hv
      obtain ⟨D, ho, hh⟩ := R.out.made.same (W' := w4) ((st.kept.block _ (Nat.lt_of_lt_of_le R.out.made.lt HB3.out.size) R.out.mf).trans (HB3.out.block _ R.out.made.lt))
      have hzw : (Lit.int .i64 z).wf = true := by
        have h1 := HI.out.all z (List.mem_of_getElem? HZ.out)
        have h2 := HI.out.f.sz
        have := h1.1; have := h1.2
        exact WalkArith.wf_i64 (by omega)
      have hyw : (Lit.int .i64 y).wf = true := by
        have h2 := st.ar.sz
        have := tp.t.1; have := tp.t.2
        exact WalkArith.wf_i64 (by omega)
      have HH := Lib.hid hh
      have hke := keyT hzw
      have hpe := plainElem_int (H := Unit) Tryd.underlying33 hyw
      have HZW := Lib.hid hzw
      clear st tp hv hh HAG
      go_wp2_with (at_mapUpdate; refine wpList_mapUpdate_own _ rfl _ _ _ 119 rfl 33 33 keyedT Tryd.underlying119 (plainElem (H := Unit) Tryd.prog 33) w.heap.size k D rfl ho (by unfold maxLen; omega) _ _ _ rfl rfl hke _ [] hpe ?_; intro w5 hown1 hg1; have HO1 := Lib.hid hown1; have HG1 := Lib.hid hg1; clear hown1 hg1)
      go_roundw
      case rel => exact ⟨k + 1, ns', foot', y, _, by omega, by go_num, rfl, R.out.next HI.out HB3.out HZ.out HN.out HST.out HTP.out HV.out HG1.out (MadeAt.of_put ho.isMap HZW.out HH.out HO1.out)⟩
      case measure => simp [intOf]; omega
    · obtain rfl : k = ls.length := by omega
      go_wp2_with fail
      go_ret2
      exact ⟨last, nsk, footk, w.heap.size, f, rfl, R.out⟩
end Go.Proofs.YtgbmiphaabeodaaDoor
