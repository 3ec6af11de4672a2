/-
  The program's own tree: find.
-/
import Derived.Test.YtlnobekjcengfaaTreeTb
namespace Go.Proofs.Ytlnobekjcengfaa
open Go.ChangeShapes Go.WideShapes Go.ChangeAt Go.RowKit Go.Joins
set_option linter.unusedVariables false
set_option linter.unusedSimpArgs false

def fnI (l : List Itm) (p : Pr) : Int × Bool × Int := if plI l p = 0 then (match nlook l p with | none => (-1, false, 65282) | some i => (i.n, i.d, 0)) else (-1, false, plI l p)
abbrev fnV (r : Int × Bool × Int) : Value := .tuple #[entV r.1 r.2.1, .int .u16 r.2.2]
theorem plI_cases (l : List Itm) (p : Pr) : plI l p = 0 ∨ plI l p = 65282 ∨ plI l p = 65300 := by
  unfold plI
  split
  · exact .inr (.inl rfl)
  · split
    · exact .inl rfl
    · split
      · exact .inr (.inl rfl)
      · split
        · exact .inl rfl
        · exact .inr (.inr rfl)
set_option maxHeartbeats 2000000 in
theorem tfind_any {W : World} {g : Nat} {m : Option Nat} {s : St} (h : MT W g m s) (ok : Ok s.l) (p : Pr) (hp : Pk p) : Calls Try.prog 34 #[.pointer (some ⟨g, 0, none⟩), tV p] W fun e W' => e = .returned (fnV (fnI s.l p)) ∧ Gw W W' := by
  have hn : ∀ b w, (Op.unary .not (.bool b)).run Try.prog w = .ok (.bool (!b)) w := fun _ _ => rfl
  have L0 : ∀ w, Gw W w → (Instr.lookup 64 (.map m) (.agg #[.string (bs p.1), .string (bs p.2)]) true).run Try.prog w = .ok (.tuple #[entV (lkN (nlook s.l p)) (lkD (nlook s.l p)), .bool (nlook s.l p).isSome]) w := fun w G => (h.on G).look ok hp
  have P0 : ∀ w, Gw W w → Calls Try.prog 41 #[.pointer (some ⟨g, 0, none⟩), tV p] w fun e W' => e = .returned (.int .u16 (plI s.l p)) ∧ Gw w W' := fun w G => place_any (h.on G) ok p hp
  have C0 : ∀ w, Gw W w → w.cell? ⟨g, 0, none⟩ = some (.map m) := fun w G => (h.hd.on G).cell 0
  have HB0 := Has.new W 75 #[.string (bs p.1), .string (bs p.2)]
  have HB1 := Has.new (W.alloc (.cells #[.string (bs p.1), .string (bs p.2)] 75)) 77 #[.int .i64 0, .bool false]
  have G0 : Gw W ((W.alloc (.cells #[.string (bs p.1), .string (bs p.2)] 75)).alloc (.cells #[.int .i64 0, .bool false] 77)) := (Gw.alloc _ _).trans (Gw.alloc _ _)
  rw [size_alloc] at HB1
  have HB0' := HB0.on (Gw.alloc _ (.cells #[.int .i64 0, .bool false] 77))
  have hpl := plI_cases s.l p
  unfold fnI
  clear h ok
  by_cases e0 : plI s.l p = 0
  · rw [if_pos e0]
    simp only [e0] at P0
    generalize nlook s.l p = o at L0 ⊢
    clear hpl e0
    go_enter Try.func34, Try.ntmps34
    go_upto_region 4 with (go_at_call 41; with_reducible refine (P0 _ G0).mono ?_; rintro e w1 ⟨rfl, G1⟩)
    have g1 := G0.trans G1
    have c1 := C0 _ g1
    have l1 := L0 _ g1.drew
    have HB2 := HB1.on G1
    have HB3 := HB0'.on G1
    obtain ⟨z0, y0⟩ := box0 HB2
    obtain ⟨z1, y1⟩ := box1 HB2
    obtain ⟨x0, _⟩ := box0 HB3
    obtain ⟨x1, _⟩ := box1 HB3
    have c1a := C0 _ (g1.trans (Gw.alloc w1 (.cells #[.int .i64 0, .bool false] 77)))
    have l1a := L0 _ (g1.trans (Gw.alloc w1 (.cells #[.int .i64 0, .bool false] 77))).drew
    obtain ⟨x0a, _⟩ := box0 (HB3.on (Gw.alloc w1 (.cells #[.int .i64 0, .bool false] 77)))
    obtain ⟨x1a, _⟩ := box1 (HB3.on (Gw.alloc w1 (.cells #[.int .i64 0, .bool false] 77)))
    clear L0 P0 C0 G1 HB1 HB0 HB0'
    go_cut [7, 8] (fun s7 s8 wx => ∃ b7, s7 = .pointer (some ⟨b7, 0, none⟩) ∧ s8 = .bool o.isSome ∧ Hid (Has wx b7 77 #[.int .i64 (lkN o), .bool (lkD o)]) ∧ Hid (w1.heap.size ≤ b7) ∧ Hid (Gw w1 wx))
    case first =>
      go_region_law (fail)
      all_goals (
        go_wp2_with fail
        go_meet
        exact ⟨_, rfl, rfl, Has.new w1 _ _, Nat.le_refl _, (Gw.alloc w1 _).drew⟩)
    case rest =>
      obtain ⟨b7, rfl, rfl, H7, hb7, GX⟩ := hcut
      have HB4 := HB2.on GX.out
      have gx := Lib.hid (g1.trans GX.out)
      obtain ⟨k0, q0⟩ := box0 HB4
      obtain ⟨k1, q1⟩ := box1 HB4
      obtain ⟨m0, _⟩ := box0 H7.out
      obtain ⟨m1, _⟩ := box1 H7.out
      clear l1 l1a c1 c1a z0 z1 y0 y1 x0 x1 x0a x1a GX H7 hb7 HB2 HB3
      cases o with
      | none =>
        simp only [lkN, lkD] at m0 m1
        go_wp2
        refine bodyPost_ret (results_row2 rfl _ _ (W.heap.size + 1) _ _ _ _ rfl ((HB4.put 0 (.int .i64 (-1))).put 1 (.bool false)) Try.underlying77 (by kernel_rfl)) rfl ?_
        exact ⟨rfl, ((But.set _ _ _ _).trans (But.set _ _ _ _)).gw gx.out (by omega)⟩
      | some i =>
        simp only [lkN, lkD] at m0 m1
        go_wp2
        refine bodyPost_ret (results_row2 rfl _ _ (W.heap.size + 1) _ _ _ _ rfl ((HB4.put 0 (.int .i64 i.n)).put 1 (.bool i.d)) Try.underlying77 (by kernel_rfl)) rfl ?_
        exact ⟨rfl, ((But.set _ _ _ _).trans (But.set _ _ _ _)).gw gx.out (by omega)⟩
  · rw [if_neg e0]
    have e1 : ((plI s.l p) == 0) = false := beq_false_of_ne e0
    generalize plI s.l p = r at P0 e0 e1 ⊢
    clear hpl
    go_enter Try.func34, Try.ntmps34
    go_wp2_with (go_at_call 41; with_reducible refine (P0 _ G0).mono ?_; rintro e w1 ⟨rfl, G1⟩; have HB2 := HB1.on G1; obtain ⟨z0, y0⟩ := box0 HB2; obtain ⟨z1, y1⟩ := box1 HB2; obtain ⟨x0, _⟩ := box0 (HB0'.on G1); obtain ⟨x1, _⟩ := box1 (HB0'.on G1))
    refine bodyPost_ret (results_row2 rfl _ _ (W.heap.size + 1) _ _ _ _ rfl ((HB2.put 0 (.int .i64 (-1))).put 1 (.bool false)) Try.underlying77 (by kernel_rfl)) rfl ?_
    exact ⟨rfl, ((But.set _ _ _ _).trans (But.set _ _ _ _)).gw (G0.trans G1) (by omega)⟩
end Go.Proofs.Ytlnobekjcengfaa
