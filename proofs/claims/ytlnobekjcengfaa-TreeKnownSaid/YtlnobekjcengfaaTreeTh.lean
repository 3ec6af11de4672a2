/-
  The program's own tree: mayMake, mayDrop, mayMove.
-/
import Derived.Test.YtlnobekjcengfaaTreeTg
namespace Go.Proofs.Ytlnobekjcengfaa
open Go.ChangeShapes Go.WideShapes Go.ChangeAt Go.RowKit Go.Joins
set_option linter.unusedVariables false
set_option linter.unusedSimpArgs false

def mkI (l : List Itm) (p : Pr) (dir : Bool) : Int := if plI l p = 0 then (match nlook l p with | some _ => 65297 | none => if dir = true ∧ p.1 ≠ [] then 65302 else if 8 ≤ l.length then 65308 else 0) else plI l p
def dpI (l : List Itm) (p : Pr) (dir : Bool) : Int := if (fnI l p).2.2 = 0 then (if (fnI l p).2.1 = true ∧ dir = false then 65301 else if dir = true ∧ (fnI l p).2.1 = false then 65300 else if 0 < mnI l p then 65319 else 0) else (fnI l p).2.2
def mvI (l : List Itm) (p q : Pr) : Int := if (fnI l p).2.2 = 0 then (if (fnI l p).2.1 = true then 65301 else if plI l q = 0 then (if lkD (nlook l q) = true then 65301 else 0) else plI l q) else (fnI l p).2.2
theorem fnI_ne {l : List Itm} {p : Pr} (h : (fnI l p).2.2 = 0) : l ≠ [] := by
  rintro rfl
  unfold fnI at h
  split at h
  · simp [nlook] at h
  · rename_i h1; exact h1 h
theorem field_dir (w : World) (n : Int) (d : Bool) : (Instr.field 77 (entV n d) 1).run Try.prog w = .ok (.bool d) w := by kernel_rfl
set_option maxHeartbeats 2000000 in
theorem mayMake_any {W : World} {g : Nat} {m : Option Nat} {s : St} (h : MT W g m s) (ok : Ok s.l) (p : Pr) (hp : Pk p) (dir : Bool) : Calls Try.prog 31 #[.pointer (some ⟨g, 0, none⟩), tV p, .bool dir] W fun e W' => e = .returned (.int .u16 (mkI s.l p dir)) ∧ Gw W W' := by
  have hn : ∀ b w, (Op.unary .not (.bool b)).run Try.prog w = .ok (.bool (!b)) w := fun _ _ => rfl
  have L0 : ∀ w, Gw W w → (Instr.lookup 64 (.map m) (.agg #[.string (bs p.1), .string (bs p.2)]) true).run Try.prog w = .ok (.tuple #[entV (lkN (nlook s.l p)) (lkD (nlook s.l p)), .bool (nlook s.l p).isSome]) w := fun w G => (h.on G).look ok hp
  have P0 : ∀ w, Gw W w → Calls Try.prog 41 #[.pointer (some ⟨g, 0, none⟩), tV p] w fun e W' => e = .returned (.int .u16 (plI s.l p)) ∧ Gw w W' := fun w G => place_any (h.on G) ok p hp
  have C0 : ∀ w, Gw W w → w.cell? ⟨g, 0, none⟩ = some (.map m) := fun w G => (h.hd.on G).cell 0
  have LN : ∀ w, Gw W w → ∀ ty, (Builtin.len_ #[64] ty #[.map m]).run Try.prog w = .ok (.int .i64 s.l.length) w := fun w G ty => (h.on G).len ty
  have D0 := fun w => tdeep_any p w
  have HB0 := Has.new W 75 #[.string (bs p.1), .string (bs p.2)]
  have G0 : Gw W (W.alloc (.cells #[.string (bs p.1), .string (bs p.2)] 75)) := Gw.alloc _ _
  unfold mkI
  clear h ok
  by_cases e0 : plI s.l p = 0
  · rw [if_pos e0]
    simp only [e0] at P0
    generalize nlook s.l p = o at L0 ⊢
    generalize s.l.length = n at LN ⊢
    clear e0
    go_enter Try.func31, Try.ntmps31
    go_upto_region 4 with (go_at_call 41; with_reducible refine (P0 _ G0).mono ?_; rintro e w1 ⟨rfl, G1⟩)
    have g1 := G0.trans G1
    have c1 := C0 _ g1
    have l1 := L0 _ g1.drew
    have HB3 := HB0.on G1
    obtain ⟨x0, _⟩ := box0 HB3
    obtain ⟨x1, _⟩ := box1 HB3
    have c1a := C0 _ (g1.trans (Gw.alloc w1 (.cells #[.int .i64 0, .bool false] 77)))
    have l1a := L0 _ (g1.trans (Gw.alloc w1 (.cells #[.int .i64 0, .bool false] 77))).drew
    obtain ⟨x0a, _⟩ := box0 (HB3.on (Gw.alloc w1 (.cells #[.int .i64 0, .bool false] 77)))
    obtain ⟨x1a, _⟩ := box1 (HB3.on (Gw.alloc w1 (.cells #[.int .i64 0, .bool false] 77)))
    clear L0 P0 G1 HB0
    go_cut [8, 9] (fun s8 s9 wx => ∃ b7, s8 = .pointer (some ⟨b7, 0, none⟩) ∧ s9 = .bool o.isSome ∧ Hid (Gw w1 wx))
    case first =>
      go_region_law (fail)
      all_goals (
        go_wp2_with fail
        go_meet
        exact ⟨_, rfl, rfl, (Gw.alloc w1 _).drew⟩)
    case rest =>
      obtain ⟨b7, rfl, rfl, GX⟩ := hcut
      have HB4 := HB3.on GX.out
      have gx := Lib.hid (g1.trans GX.out)
      obtain ⟨k0, q0⟩ := box0 HB4
      obtain ⟨k1, q1⟩ := box1 HB4
      have c2 := C0 _ gx.out
      have ln2 := LN _ gx.out
      clear l1 l1a c1 c1a x0 x1 x0a x1a GX HB3
      cases o with
      | some i =>
        go_wp2
        go_ret
        exact ⟨rfl, gx.out⟩
      | none =>
        cases dir with
        | true =>
          by_cases e1 : p.1 = []
          · simp only [e1, decide_true, Bool.not_true] at D0
            by_cases e8 : 8 ≤ n
            · have e8' : (8 : Int) ≤ n := by omega
              have HE := Lib.hid e1
              clear e1
              go_wp2_with (go_at_call 42; refine (D0 _).mono ?_; rintro e w3 ⟨rfl, G3⟩; have c3 := C0 _ (gx.out.trans G3); have ln3 := LN _ (gx.out.trans G3))
              go_ret
              exact ⟨by simp only [HE.out, e8, ne_eq, not_true_eq_false, and_false, if_false, if_true]; rfl, gx.out.trans G3⟩
            · have e8' : decide ((8 : Int) ≤ n) = false := decide_eq_false (by omega)
              have HE := Lib.hid e1
              have H8 := Lib.hid e8
              clear e1 e8
              go_wp2_with (go_at_call 42; refine (D0 _).mono ?_; rintro e w3 ⟨rfl, G3⟩; have c3 := C0 _ (gx.out.trans G3); have ln3 := LN _ (gx.out.trans G3))
              go_ret
              exact ⟨by simp only [HE.out, H8.out, ne_eq, not_true_eq_false, and_false, if_false]; rfl, gx.out.trans G3⟩
          · simp only [e1, decide_false, Bool.not_false] at D0
            have HE := Lib.hid e1
            clear e1
            go_wp2_with (go_at_call 42; refine (D0 _).mono ?_; rintro e w3 ⟨rfl, G3⟩)
            go_ret
            exact ⟨by simp only [HE.out, ne_eq, not_false_eq_true, and_true, if_true]; rfl, gx.out.trans G3⟩
        | false =>
          by_cases e8 : 8 ≤ n
          · have e8' : (8 : Int) ≤ n := by omega
            go_wp2
            go_ret
            exact ⟨by simp only [e8, Bool.false_eq_true, false_and, if_false, if_true]; rfl, gx.out⟩
          · have e8' : decide ((8 : Int) ≤ n) = false := decide_eq_false (by omega)
            have H8 := Lib.hid e8
            clear e8
            go_wp2
            go_ret
            exact ⟨by simp only [H8.out, Bool.false_eq_true, false_and, if_false]; rfl, gx.out⟩
  · rw [if_neg e0]
    have e1 : ((plI s.l p) == 0) = false := beq_false_of_ne e0
    generalize plI s.l p = r at P0 e0 e1 ⊢
    go_enter Try.func31, Try.ntmps31
    go_wp2_with (go_at_call 41; with_reducible refine (P0 _ G0).mono ?_; rintro e w1 ⟨rfl, G1⟩)
    go_ret
    exact ⟨rfl, G0.trans G1⟩
set_option maxHeartbeats 2000000 in
theorem mayDrop_any {W : World} {g : Nat} {m : Option Nat} {s : St} (h : MT W g m s) (ok : Ok s.l) (hl8 : s.l.length ≤ 8) (p : Pr) (hp : Pk p) (dir : Bool) : Calls Try.prog 32 #[.pointer (some ⟨g, 0, none⟩), tV p, .bool dir] W fun e W' => e = .returned (.int .u16 (dpI s.l p dir)) ∧ Gw W W' := by
  have hn : ∀ b w, (Op.unary .not (.bool b)).run Try.prog w = .ok (.bool (!b)) w := fun _ _ => rfl
  have F0 : ∀ w, Gw W w → Calls Try.prog 34 #[.pointer (some ⟨g, 0, none⟩), tV p] w fun e W' => e = .returned (fnV (fnI s.l p)) ∧ Gw w W' := fun w G => tfind_any (h.on G) ok p hp
  have M0 : Hid ((fnI s.l p).2.2 = 0 → ∀ w, Gw W w → Calls Try.prog 35 #[.pointer (some ⟨g, 0, none⟩), .agg #[.string (bs p.1), .string (bs p.2)]] w fun e W' => e = .returned (.int .i64 (mnI s.l p)) ∧ Gw w W') := fun hz w G => tmany_any (h.on G) ok hl8 (fnI_ne hz) p hp
  have HB0 := Has.new W 75 #[.string (bs p.1), .string (bs p.2)]
  have G0 : Gw W (W.alloc (.cells #[.string (bs p.1), .string (bs p.2)] 75)) := Gw.alloc _ _
  unfold dpI
  clear h ok hl8
  generalize fnI s.l p = f at F0 M0 ⊢
  generalize mnI s.l p = mc at M0 ⊢
  obtain ⟨n, d, no⟩ := f
  simp only at M0 ⊢
  by_cases e0 : no = 0
  · have M1 := M0.out e0
    subst e0
    clear M0
    rw [if_pos rfl]
    go_enter Try.func32, Try.ntmps32
    go_upto_region 2 with (go_at_call 34; with_reducible refine (F0 _ G0).mono ?_; rintro e w1 ⟨rfl, G1⟩)
    have g1 := G0.trans G1
    have g1a := g1.trans (Gw.alloc w1 (.cells #[.int .i64 n, .bool d] 77))
    have HB3 := (HB0.on G1).on (Gw.alloc w1 (.cells #[.int .i64 n, .bool d] 77))
    obtain ⟨x0, _⟩ := box0 HB3
    obtain ⟨x1, _⟩ := box1 HB3
    clear F0 HB0 HB3
    by_cases em : 0 < mc
    · have em' : (0 : Int) < mc := by omega
      cases d <;> cases dir <;> (
        go_wp2_with (go_at_call 35; with_reducible refine (M1 _ g1a).mono ?_; rintro e w3 ⟨rfl, G3⟩)
        go_ret
        first | exact ⟨by simp [em], g1a.trans G3⟩ | exact ⟨by simp, g1a⟩)
    · have em' : decide ((0 : Int) < mc) = false := decide_eq_false (by omega)
      have em2 : mc = 0 := by omega
      cases d <;> cases dir <;> (
        go_wp2_with (go_at_call 35; with_reducible refine (M1 _ g1a).mono ?_; rintro e w3 ⟨rfl, G3⟩)
        go_ret
        first | exact ⟨by simp [em], g1a.trans G3⟩ | exact ⟨by simp, g1a⟩)
  · rw [if_neg e0]
    have e1 : (no == 0) = false := beq_false_of_ne e0
    clear M0
    go_enter Try.func32, Try.ntmps32
    go_wp2_with (go_at_call 34; with_reducible refine (F0 _ G0).mono ?_; rintro e w1 ⟨rfl, G1⟩)
    go_ret
    exact ⟨rfl, (G0.trans G1).trans (Gw.alloc _ _)⟩
set_option maxHeartbeats 2000000 in
theorem mayMove_any {W : World} {g : Nat} {m : Option Nat} {s : St} (h : MT W g m s) (ok : Ok s.l) (p q : Pr) (hp : Pk p) (hq : Pk q) : Calls Try.prog 33 #[.pointer (some ⟨g, 0, none⟩), tV p, tV q] W fun e W' => e = .returned (.int .u16 (mvI s.l p q)) ∧ Gw W W' := by
  have hn : ∀ b w, (Op.unary .not (.bool b)).run Try.prog w = .ok (.bool (!b)) w := fun _ _ => rfl
  have F0 : ∀ w, Gw W w → Calls Try.prog 34 #[.pointer (some ⟨g, 0, none⟩), tV p] w fun e W' => e = .returned (fnV (fnI s.l p)) ∧ Gw w W' := fun w G => tfind_any (h.on G) ok p hp
  have P0 : ∀ w, Gw W w → Calls Try.prog 41 #[.pointer (some ⟨g, 0, none⟩), .agg #[.string (bs q.1), .string (bs q.2)]] w fun e W' => e = .returned (.int .u16 (plI s.l q)) ∧ Gw w W' := fun w G => place_any (h.on G) ok q hq
  have L0 : ∀ w, Gw W w → (Instr.lookup 64 (.map m) (.agg #[.string (bs q.1), .string (bs q.2)]) false).run Try.prog w = .ok (entV (lkN (nlook s.l q)) (lkD (nlook s.l q))) w := fun w G => (h.on G).look1 ok hq
  have C0 : ∀ w, Gw W w → w.cell? ⟨g, 0, none⟩ = some (.map m) := fun w G => (h.hd.on G).cell 0
  have HB0 := (Has.new W 75 #[.string (bs p.1), .string (bs p.2)]).on (Gw.alloc _ (.cells #[.string (bs q.1), .string (bs q.2)] 75))
  have HB1 := Has.new (W.alloc (.cells #[.string (bs p.1), .string (bs p.2)] 75)) 75 #[.string (bs q.1), .string (bs q.2)]
  rw [size_alloc] at HB1
  have G0 : Gw W ((W.alloc (.cells #[.string (bs p.1), .string (bs p.2)] 75)).alloc (.cells #[.string (bs q.1), .string (bs q.2)] 75)) := (Gw.alloc _ _).trans (Gw.alloc _ _)
  unfold mvI
  clear h ok
  generalize fnI s.l p = f at F0 ⊢
  generalize nlook s.l q = o at L0 ⊢
  generalize plI s.l q = r at P0 ⊢
  obtain ⟨n, d, no⟩ := f
  simp only
  by_cases e0 : no = 0
  · subst e0
    rw [if_pos rfl]
    go_enter Try.func33, Try.ntmps33
    go_upto_region 2 with (go_at_call 34; with_reducible refine (F0 _ G0).mono ?_; rintro e w1 ⟨rfl, G1⟩)
    have g1 := G0.trans G1
    have g1a := g1.trans (Gw.alloc w1 (.cells #[.int .i64 n, .bool d] 77))
    have HB3 := (HB1.on G1).on (Gw.alloc w1 (.cells #[.int .i64 n, .bool d] 77))
    obtain ⟨x0, _⟩ := box0 HB3
    obtain ⟨x1, _⟩ := box1 HB3
    clear F0 HB0 HB1
    cases d with
    | true =>
      go_wp2
      go_ret
      exact ⟨rfl, g1a⟩
    | false =>
      by_cases er : r = 0
      · subst er
        go_upto_region 9 with (go_at_call 41; with_reducible refine (P0 _ g1a).mono ?_; rintro e w3 ⟨rfl, G3⟩)
        have g3 := g1a.trans G3
        have c3 := C0 _ g3
        have l3 := L0 _ g3
        have l3d := L0 _ g3.drew
        have HB4 := HB3.on G3
        obtain ⟨y0, _⟩ := box0 HB4
        obtain ⟨y1, _⟩ := box1 HB4
        clear L0 P0 C0 x0 x1
        have hf := fun w n d => field_dir w n d
        cases hd : lkD o <;> (
          rw [hd] at l3 l3d
          go_region
          all_goals (
            go_wp2
            go_ret
            exact ⟨by simp [hd], g3.drew⟩))
      · have e1 : (r == 0) = false := beq_false_of_ne er
        go_wp2_with (go_at_call 41; with_reducible refine (P0 _ g1a).mono ?_; rintro e w3 ⟨rfl, G3⟩)
        go_ret
        exact ⟨by simp [er], g1a.trans G3⟩
  · rw [if_neg e0]
    have e1 : (no == 0) = false := beq_false_of_ne e0
    go_enter Try.func33, Try.ntmps33
    go_wp2_with (go_at_call 34; with_reducible refine (F0 _ G0).mono ?_; rintro e w1 ⟨rfl, G1⟩)
    go_ret
    exact ⟨rfl, (G0.trans G1).trans (Gw.alloc _ _)⟩
end Go.Proofs.Ytlnobekjcengfaa
