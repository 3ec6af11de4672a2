/-
  Read of package prog: a program, or why the bytes are none.
-/
import Derived.Test.YtcecmkelefhaaaaDoorProgI
namespace Go.Proofs.YtcecmkelefhaaaaDoor
open Go.ChangeShapes Go.WideShapes Go.ChangeAt Go.RowKit Go.Joins
set_option linter.unusedVariables false

/-- Why bytes are no program: 0 is none. -/
def errR (l : List UInt8) : Int := if (par l).ok = true then errP (par l).L (par l).N else 4
abbrev ReadPost (l : List UInt8) (w : World) (e : Ending) (W' : World) : Prop :=
  ∃ C ca B cb, e = .returned (.tuple #[.agg #[.slice C (if errR l = 0 then (par l).L else []).length ca, .slice B (if errR l = 0 then (par l).N else []).length cb], .int .i64 (errR l)]) ∧ POk W' C (if errR l = 0 then (par l).L else []) ca B (if errR l = 0 then (par l).N else []) cb ∧ Gw w W'
set_option maxRecDepth 4000 in
set_option maxHeartbeats 4000000 in
theorem read_any {w0 : World} {A : Option Addr} {l : List UInt8} {cap : Nat} (hA : ByAt w0 A l) (hc : l.length ≤ cap) (hm : cap ≤ 9223372036854775807) :
    Calls Tryd.prog 14 #[.slice A l.length cap] w0 (ReadPost l w0) := by
  obtain ⟨w1, hw1⟩ : ∃ w1, w1 = w0.alloc (.cells #[.slice none 0 0, .slice none 0 0] 25) := ⟨_, rfl⟩
  have G1 := Gw.alloc w0 (.cells #[.slice none 0 0, .slice none 0 0] 25)
  have X1 := Has.new w0 25 #[.slice none 0 0, .slice none 0 0]
  rw [← hw1] at G1 X1
  have hA1 : ByAt w1 A l := fun i z hz => by
    obtain ⟨b, off, e, h1, h2⟩ := hA i z hz
    exact ⟨b, off, e, Nat.lt_of_lt_of_le h1 G1.size, G1.cell h2⟩
  have CP := parse_any hA1 hc hm
  unfold ReadPost errR
  generalize par l = p at *
  obtain ⟨L, N, ok⟩ := p
  simp only at CP ⊢
  clear hA hA1
  cases ok with
  | false =>
    simp only [Bool.false_eq_true, if_false, show ¬ (4 : Int) = 0 by decide]
    go_enter Tryd.func14, Tryd.ntmps14
    go_upto_region 1 with fail
    rw [← hw1]
    clear hw1
    go_wp2_with (go_at_call 21; with_reducible refine CP.mono ?_; rintro e w2 ⟨C, ca, B, cb, rfl, HPO, G2, FC, FB⟩; have X2 := Lib.hid (X1.same (G2.block _ X1.lt)); have GA := Gw.alloc w2 (.cells #[.slice C L.length ca, .slice B N.length cb] 25); have X3 := Lib.hid (X2.out.same (GA.block _ X2.out.lt)); have Y3 := Lib.hid (Has.new w2 25 #[.slice C L.length ca, .slice B N.length cb]); have G3 := Lib.hid (G1.trans (G2.trans GA)); have P3 := Lib.hid (HPO.gw GA); have r0 := box0 X3.out; have r1 := box1 X3.out; have y0 := box0 Y3.out; have y1 := box1 Y3.out; obtain ⟨r0, r0f⟩ := r0; obtain ⟨r1, r1f⟩ := r1; obtain ⟨y0, y0f⟩ := y0; obtain ⟨y1, y1f⟩ := y1; clear GA HPO)
    have BF := (But.set w0.heap.size (w2.alloc (.cells #[.slice C L.length ca, .slice B N.length cb] 25)) 0 (.slice none 0 0)).trans (But.set w0.heap.size _ 1 (.slice none 0 0))
    refine bodyPost_ret (results_row2 rfl _ _ w0.heap.size _ _ _ _ rfl ((X3.out.put 0 (.slice none 0 0)).put 1 (.slice none 0 0)) Tryd.underlying25 (by kernel_rfl)) rfl ?_
    exact ⟨none, 0, none, 0, rfl, POk.nil _, BF.gw G3.out (Nat.le_refl _)⟩
  | true =>
    simp only [if_true]
    have RF := fun {W : World} {C B : Option Addr} {ca cb : Nat} (h : POk W C L ca B N cb) => refusal_any h
    by_cases h0 : errP L N = 0
    · rw [h0] at RF ⊢
      simp only [if_true]
      go_enter Tryd.func14, Tryd.ntmps14
      go_upto_region 1 with fail
      rw [← hw1]
      clear hw1
      go_wp2_with (first | (go_at_call 21; with_reducible refine CP.mono ?_; rintro e w2 ⟨C, ca, B, cb, rfl, HPO, G2, FC, FB⟩; have X2 := Lib.hid (X1.same (G2.block _ X1.lt)); have GA := Gw.alloc w2 (.cells #[.slice C L.length ca, .slice B N.length cb] 25); have X3 := Lib.hid (X2.out.same (GA.block _ X2.out.lt)); have Y3 := Lib.hid (Has.new w2 25 #[.slice C L.length ca, .slice B N.length cb]); have G3 := Lib.hid (G1.trans (G2.trans GA)); have P3 := Lib.hid (HPO.gw GA); have r0 := box0 X3.out; have r1 := box1 X3.out; have y0 := box0 Y3.out; have y1 := box1 Y3.out; obtain ⟨r0, r0f⟩ := r0; obtain ⟨r1, r1f⟩ := r1; obtain ⟨y0, y0f⟩ := y0; obtain ⟨y1, y1f⟩ := y1; clear GA HPO) | (go_at_call 20; with_reducible refine (RF P3.out).mono ?_; rintro e w4 ⟨rfl, G4⟩; have X4 := Lib.hid (X3.out.same (G4.block _ X3.out.lt)); have Y4 := Lib.hid (Y3.out.same (G4.block _ Y3.out.lt)); have r0 := box0 X4.out; have r1 := box1 X4.out; have y0 := box0 Y4.out; have y1 := box1 Y4.out; obtain ⟨r0, r0f⟩ := r0; obtain ⟨r1, r1f⟩ := r1; obtain ⟨y0, y0f⟩ := y0; obtain ⟨y1, y1f⟩ := y1))
      have BF := (But.set w0.heap.size w4 0 (.slice C L.length ca)).trans (But.set w0.heap.size _ 1 (.slice B N.length cb))
      refine bodyPost_ret (results_row2 rfl _ _ w0.heap.size _ _ _ _ rfl ((X4.out.put 0 (.slice C L.length ca)).put 1 (.slice B N.length cb)) Tryd.underlying25 (by kernel_rfl)) rfl ?_
      exact ⟨C, ca, B, cb, rfl, (P3.out.gw G4).but BF (fun g off e => by have := FC g off e; have := X1.lt; omega) (fun g off e => by have := FB g off e; have := X1.lt; omega), BF.gw (G3.out.trans G4) (Nat.le_refl _)⟩
    · obtain ⟨q, hq⟩ : ∃ q, errP L N = q := ⟨_, rfl⟩
      have hne : (q == 0) = false := by rw [beq_eq_false_iff_ne, ← hq]; exact h0
      rw [hq] at RF h0 ⊢
      simp only [if_neg h0]
      clear hq
      go_enter Tryd.func14, Tryd.ntmps14
      go_upto_region 1 with fail
      rw [← hw1]
      clear hw1
      go_wp2_with (first | (go_at_call 21; with_reducible refine CP.mono ?_; rintro e w2 ⟨C, ca, B, cb, rfl, HPO, G2, FC, FB⟩; have X2 := Lib.hid (X1.same (G2.block _ X1.lt)); have GA := Gw.alloc w2 (.cells #[.slice C L.length ca, .slice B N.length cb] 25); have X3 := Lib.hid (X2.out.same (GA.block _ X2.out.lt)); have Y3 := Lib.hid (Has.new w2 25 #[.slice C L.length ca, .slice B N.length cb]); have G3 := Lib.hid (G1.trans (G2.trans GA)); have P3 := Lib.hid (HPO.gw GA); have r0 := box0 X3.out; have r1 := box1 X3.out; have y0 := box0 Y3.out; have y1 := box1 Y3.out; obtain ⟨r0, r0f⟩ := r0; obtain ⟨r1, r1f⟩ := r1; obtain ⟨y0, y0f⟩ := y0; obtain ⟨y1, y1f⟩ := y1; clear GA HPO) | (go_at_call 20; with_reducible refine (RF P3.out).mono ?_; rintro e w4 ⟨rfl, G4⟩; have X4 := Lib.hid (X3.out.same (G4.block _ X3.out.lt)); have r0 := box0 X4.out; have r1 := box1 X4.out; obtain ⟨r0, r0f⟩ := r0; obtain ⟨r1, r1f⟩ := r1))
      have BF := (But.set w0.heap.size w4 0 (.slice none 0 0)).trans (But.set w0.heap.size _ 1 (.slice none 0 0))
      refine bodyPost_ret (results_row2 rfl _ _ w0.heap.size _ _ _ _ rfl ((X4.out.put 0 (.slice none 0 0)).put 1 (.slice none 0 0)) Tryd.underlying25 (by kernel_rfl)) rfl ?_
      exact ⟨none, 0, none, 0, rfl, POk.nil _, BF.gw (G3.out.trans G4) (Nat.le_refl _)⟩
end Go.Proofs.YtcecmkelefhaaaaDoor
