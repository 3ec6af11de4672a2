/-
  The program's own tree: place.
-/
import Derived.Test.YtlnobekjcengfaaTreeTa
namespace Go.Proofs.Ytlnobekjcengfaa
open Go.ChangeShapes Go.WideShapes Go.ChangeAt Go.RowKit Go.Joins
set_option linter.unusedVariables false
set_option linter.unusedSimpArgs false

set_option maxHeartbeats 2000000 in
theorem place_any {W : World} {g : Nat} {m : Option Nat} {s : St} (h : MT W g m s) (ok : Ok s.l) (p : Pr) (hp : Pk p) : Calls Try.prog 41 #[.pointer (some ⟨g, 0, none⟩), tV p] W fun e W' => e = .returned (.int .u16 (plI s.l p)) ∧ Gw W W' := by
  obtain ⟨p1, p2⟩ := p
  have hn : ∀ b w, (Op.unary .not (.bool b)).run Try.prog w = .ok (.bool (!b)) w := fun _ _ => rfl
  have L0 : ∀ w, Gw W w → (Instr.lookup 64 (.map m) (tV ([], p1)) true).run Try.prog w = .ok (.tuple #[entV (lkN (nlook s.l ([], p1))) (lkD (nlook s.l ([], p1))), .bool (nlook s.l ([], p1)).isSome]) w := fun w G => (h.on G).look ok (pk_up hp)
  have A0 := fun w => tabove_any (p1, p2) w
  have D0 := fun w => tdeep_any (p1, p2) w
  have C0 : ∀ w, Gw W w → w.cell? ⟨g, 0, none⟩ = some (.map m) := fun w G => (h.hd.on G).cell 0
  have G0 : Gw W (W.alloc (.cells #[.string (bs p1), .string (bs p2)] 75)) := Gw.alloc _ _
  have HB0 := Has.new W 75 #[.string (bs p1), .string (bs p2)]
  clear h ok
  unfold plI
  have t1 : ∀ q : List UInt8, ((bs q).toList == ([] : List UInt8)) = decide (q = []) ∧ (bs q).toList.isEmpty = decide (q = []) := fun q => by rw [bs_list]; cases q <;> exact ⟨rfl, rfl⟩
  obtain ⟨s1, s2⟩ := t1 p1
  obtain ⟨r1, r2⟩ := t1 p2
  clear t1
  by_cases e1 : p1 = []
  · rw [decide_eq_true e1] at s1 s2
    by_cases e2 : p2 = []
    · rw [decide_eq_true e2] at r1 r2
      have hr : ((p1, p2) : Pr) = ([], []) := by rw [e1, e2]
      rw [if_pos hr]
      clear e1 e2 hr
      go_enter Try.func41, Try.ntmps41
      go_wp2
      go_ret
      exact ⟨rfl, G0⟩
    · rw [decide_eq_false e2] at r1 r2
      have hr : ¬ ((p1, p2) : Pr) = ([], []) := fun k => e2 (Prod.mk.inj k).2
      rw [if_neg hr, if_pos e1]
      simp only [decide_true, Bool.not_true, e1] at D0
      rw [← e1] at D0
      clear e1 e2 hr
      go_enter Try.func41, Try.ntmps41
      go_wp2_with (go_at_call 42; with_reducible refine (D0 _).mono ?_; rintro e w1 ⟨rfl, G1⟩)
      go_ret
      exact ⟨rfl, G0.trans G1⟩
  · rw [decide_eq_false e1] at s1 s2
    have hr : ¬ ((p1, p2) : Pr) = ([], []) := fun k => e1 (Prod.mk.inj k).1
    rw [if_neg hr, if_neg e1]
    simp only [e1, decide_false, Bool.not_false] at D0
    generalize nlook s.l ([], p1) = o at L0 ⊢
    clear e1 hr
    go_enter Try.func41, Try.ntmps41
    go_upto_region 5 with (go_at_call 42; with_reducible refine (D0 _).mono ?_; rintro e w1 ⟨rfl, G1⟩)
    have g1 := G0.trans G1
    have g1a := g1.trans (Gw.alloc w1 (.cells #[.int .i64 0, .bool false] 77))
    have HB1 := HB0.on G1
    have c1 := C0 _ g1
    have c1a := C0 _ g1a
    obtain ⟨b1, _⟩ := box1 HB1
    obtain ⟨b0, _⟩ := box0 HB1
    obtain ⟨b1a, _⟩ := box1 (HB1.on (Gw.alloc w1 (.cells #[.int .i64 0, .bool false] 77)))
    obtain ⟨b0a, _⟩ := box0 (HB1.on (Gw.alloc w1 (.cells #[.int .i64 0, .bool false] 77)))
    have l1 := L0
    go_region_law (first
      | (rw [if_pos (by rfl)]; go_simp; go_at_call 43; with_reducible refine (A0 _).mono ?_; rintro e w2 ⟨rfl, G2⟩; have g2 : Gw W w2 := (by first | exact (g1.drew.trans G2) | exact (g1a.drew.trans G2)); have c2 := C0 _ g2; have c2a := C0 _ (g2.trans (Gw.alloc w2 (.cells #[.int .i64 0, .bool false] 77))); have l2 := L0 _ g2; have l2a := L0 _ (g2.trans (Gw.alloc w2 (.cells #[.int .i64 0, .bool false] 77))); (try (have hb2 : Has w2 w1.heap.size 77 #[.int .i64 0, .bool false] := (Has.new w1 _ _).on ((Gw.refl _).drew.trans G2); have z0 := (box0 hb2).1; have z1 := (box1 hb2).1; have y0 := (box0 hb2).2; have y1 := (box1 hb2).2)))
      | fail)
    all_goals (
      clear l1 l2 l2a L0
      cases o with
      | none =>
        simp only [lkN, lkD, Option.isSome]
        go_wp2
        go_ret
        refine ⟨rfl, ?_⟩
        first | exact g2 | exact g2.trans (Gw.alloc _ _) | exact ((But.set _ _ _ _).trans (But.set _ _ _ _)).gw g2 g1.size
      | some i =>
        simp only [lkN, lkD, Option.isSome]
        cases hid : i.d with
        | true =>
          go_wp2
          go_ret
          refine ⟨by simp, ?_⟩
          first | exact g2 | exact g2.trans (Gw.alloc _ _) | exact ((But.set _ _ _ _).trans (But.set _ _ _ _)).gw g2 g1.size
        | false =>
          go_wp2
          go_ret
          refine ⟨by simp, ?_⟩
          first | exact g2 | exact g2.trans (Gw.alloc _ _) | exact ((But.set _ _ _ _).trans (But.set _ _ _ _)).gw g2 g1.size)
end Go.Proofs.Ytlnobekjcengfaa
