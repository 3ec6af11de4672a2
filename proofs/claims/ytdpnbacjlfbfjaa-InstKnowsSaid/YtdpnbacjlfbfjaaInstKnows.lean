/-
  The law InstKnows: any instruction: whether it may be, its name, what it takes and gives, whether it jumps, ends, may fail. No condition.
-/
import Derived.Test.YtdpnbacjlfbfjaaInstE
import Derived.ProofKit
import Derived.OpenShut
import Derived.Lib.SmallJoins
import Derived.Deep.QuietTactic
import Derived.BigQuiet
namespace Go.Proofs.Ytdpnbacjlfbfjaa.instKnows
open Go.ChangeShapes Go.WideShapes Go.ChangeAt Go.RowKit Go.Joins
set_option linter.unusedVariables false

theorem own : ownKnob Try.prog.godebug = none := by kernel_rfl
theorem cellsI : Try.prog.cellsOf 23 = 2 := by kernel_rfl
theorem jumps_eq (op : Int) : jumpsB op = (op == 22 || op == 23) := rfl
theorem ends_eq (op : Int) : endsB op = (op == 22 || op == 26) := rfl
theorem falls_eq (op : Int) : rfallsB op = fallsB op := rfl
/-- A world that has grown out of w and holds the law's own i in block g. -/
structure InW (g : Nat) (a0 a1 : Int) (w : World) where
  val : World
  row : val.heap[g]? = some (.cells #[.int .i64 a0, .int .i64 a1] 23 (0, 0))
  grown : Grown w val
theorem toC {g : Nat} {a0 a1 : Int} {w : World} {f : FuncId} {args : Array Value} {v : Value} {n : InW g a0 a1 w} (h : Calls Try.prog f args n.val fun e w' => e = .returned v ∧ Grown n.val w') :
    Calls Try.prog f args n.val fun e w'' => e = .returned v ∧ ∃ m : InW g a0 a1 w, w'' = m.val :=
  h.mono fun _ w' ⟨he, G⟩ => ⟨he, ⟨w', grown_row G n.row, grown_trans n.grown G⟩, rfl⟩
theorem toS {g : Nat} {a0 a1 : Int} {w : World} {f : FuncId} {args : Array Value} {v : Value} {n : InW g a0 a1 w} (h : Calls Try.prog f args n.val fun e w' => e = .returned v ∧ w' = n.val) :
    Calls Try.prog f args n.val fun e w'' => e = .returned v ∧ ∃ m : InW g a0 a1 w, w'' = m.val :=
  h.mono fun _ w' ⟨he, G⟩ => ⟨he, n, G⟩
theorem region_in {g : Nat} {a0 a1 : Int} {w0 : World} {id : Nat} {Q : Exit → Act → World → Prop} {a : Act} {w : World} {l : List Oper} (hm : Try.prog.follows .mixedOrders = true) (hB : Region.lexB .any l.toArray = true)
    (hr : w.heap[g]? = some (.cells #[.int .i64 a0, .int .i64 a1] 23 (0, 0))) (hg : Grown w0 w)
    (h : wpQuiet Try.prog l.toArray (fun w' => ∃ n : InW g a0 a1 w0, w' = n.val) (fun a' => ∀ w', (∃ n : InW g a0 a1 w0, w' = n.val) → Q .normal a' w') l a) : (Code.region id l.toArray true).wp Try.prog Q a w :=
  wp_region_quiet (C := fun w' => ∃ n : InW g a0 a1 w0, w' = n.val) hm hB ⟨⟨{ w with drawn := w.drawn + 1 }, hr, hg⟩, rfl⟩ (by simpa using h)

set_option maxHeartbeats 8000000 in
theorem core (a0 a1 : Int) (b1 b2 b3 b4 ok : Bool) (n1 : ByteArray) (n2 n3 n4 : Int) (w : World) (x22 x23 x26 : Bool) (h22 : (a0 == 22) = x22) (h23 : (a0 == 23) = x23) (h26 : (a0 == 26) = x26) (hj : b2 = (x22 || x23)) (he : b3 = (x22 || x26))
    (m0 : ∀ W, Calls Try.prog 9 #[.agg #[.int .i64 a0, .int .i64 a1]] W fun e W' => e = .returned (.bool b4) ∧ Grown W W')
    (m1 : ∀ W, Calls Try.prog 10 #[.agg #[.int .i64 a0, .int .i64 a1]] W fun e W' => e = .returned (.bool b4) ∧ Grown W W')
    (e1 : ∀ W, Calls Try.prog 12 #[.int .i64 a0] W fun e W' => e = .returned (.int .i64 n2) ∧ Grown W W')
    (e2 : ∀ W, Calls Try.prog 13 #[.int .i64 a0] W fun e W' => e = .returned (.int .i64 n3) ∧ Grown W W')
    (e3 : ∀ W, Calls Try.prog 16 #[.int .i64 a0] W fun e W' => e = .returned (.bool b1) ∧ W' = W)
    (e4 : ∀ W, Calls Try.prog 14 #[.int .i64 a0] W fun e W' => e = .returned (.bool b2) ∧ W' = W)
    (e5 : ∀ W, Calls Try.prog 15 #[.int .i64 a0] W fun e W' => e = .returned (.bool b3) ∧ W' = W)
    (e6 : ∀ W, Calls Try.prog 17 #[.int .i64 a0] W fun e W' => e = .returned (.bool b1) ∧ W' = W)
    (e7 : ∀ W, Calls Try.prog 11 #[.int .i64 a0] W fun e W' => e = .returned (.string n1) ∧ Grown W W')
    (e8 : ∀ W, Calls Try.prog 8 #[.int .i64 a0] W fun e W' => e = .returned (.tuple #[.string n1, .int .i64 n2, .int .i64 n3, .int .i64 n4, .bool ok]) ∧ Grown W W') :
    Calls Try.prog 3 #[.agg #[.int .i64 a0, .int .i64 a1]] w fun e w' => e = .returned (.bool true) ∧ Grown w w' := by
  have hn : ∀ b w, (Op.unary .not (.bool b)).run Try.prog w = .ok (.bool (!b)) w := fun _ _ => rfl
  have hd0 : ∀ n : InW w.heap.size a0 a1 w, n.val.cell? ⟨w.heap.size, 0, none⟩ = some (.int .i64 a0) := fun n => (two_cells n.row).1
  have hd1 : ∀ n : InW w.heap.size a0 a1 w, n.val.cell? ⟨w.heap.size, 1, none⟩ = some (.int .i64 a1) := fun n => (two_cells n.row).2.1
  have cd : (x22 = true ∧ x23 = false ∧ x26 = false) ∨ (x22 = false ∧ x23 = true ∧ x26 = false) ∨ (x22 = false ∧ x23 = false ∧ x26 = true) ∨ (x22 = false ∧ x23 = false ∧ x26 = false) := by
    subst h22 h23 h26
    by_cases h : a0 = 22
    · subst h; simp
    · by_cases h' : a0 = 23
      · subst h'; simp
      · by_cases h'' : a0 = 26
        · subst h''; simp
        · simp [h, h', h'']
  rcases cd with ⟨rfl, rfl, rfl⟩ | ⟨rfl, rfl, rfl⟩ | ⟨rfl, rfl, rfl⟩ | ⟨rfl, rfl, rfl⟩
  all_goals
    simp only [Bool.true_or, Bool.false_or] at hj he
    subst hj he
    go_enter Try.func3, Try.ntmps3
    go_wp2_with (first | (go_at_call 7; with_reducible refine (awake9_any _).mono ?_; rintro e w' ⟨rfl, G1⟩; have GT := grown_trans ((Grown.refl _).alloc _ _) G1; have HR := grown_row G1 (heap_alloc_new _ _); obtain ⟨d0, d1, f0, f1⟩ := two_cells HR) | (go_at_call 8; with_reducible refine (e8 _).mono ?_; rintro e w' ⟨rfl, G1⟩; have GT := grown_trans GT G1; have HR := grown_row G1 HR; obtain ⟨d0, d1, f0, f1⟩ := two_cells HR))
    refine region_in (g := w.heap.size) (a0 := a0) (a1 := a1) (w0 := w) (by kernel_rfl) (by kernel_rfl) HR GT ?_
    have hne : Nonempty (InW w.heap.size a0 a1 w) := ⟨⟨_, HR, GT⟩⟩
    repeat (go_big_quiet_step (first | exact toC (m0 _) | exact toC (m1 _) | exact toC (e1 _) | exact toC (e2 _) | exact toS (e3 _) | exact toS (e4 _) | exact toS (e5 _) | exact toS (e6 _) | exact toC (e7 _)))
    refine wpQuiet_nil ?_
    intro _ hw'
    obtain ⟨nq, rfl⟩ := hw'
    go_wp2
    go_ret
    exact ⟨rfl, nq.grown⟩

theorem walk (a0 a1 : Int) (w0 : (Lit.int .i64 a0).wf = true) (w1 : (Lit.int .i64 a1).wf = true) (w : World) :
    Calls Try.prog 3 #[.agg #[.int .i64 a0, .int .i64 a1]] w fun e w' => e = .returned (.bool true) ∧ Grown w w' := by
  by_cases hin : 1 ≤ a0 ∧ a0 < 42
  · obtain ⟨k, rfl⟩ : ∃ k : Nat, a0 = k := ⟨a0.toNat, by omega⟩
    have k1 : 1 ≤ k := by omega
    have k2 : k < 42 := by omega
    exact core k a1 _ _ _ _ _ _ _ _ _ w _ _ _ rfl rfl rfl rfl rfl (may_yes k a1 k1 k2) (rmay_yes k a1 k1 k2) (takes_yes k k1 k2) (gives_yes k k1 k2) (falls_any k) (jumps_any k) (ends_any k) (rfalls_any k) (name_yes k k1 k2) (rrow_yes k k1 k2)
  · exact core a0 a1 _ _ _ _ _ _ _ _ (-1) w _ _ _ rfl rfl rfl rfl rfl (may_no a0 a1 hin) (rmay_no a0 a1 hin) (takes_no a0 hin) (gives_no a0 hin) (falls_any a0) (jumps_any a0) (ends_any a0) (rfalls_any a0) (name_no a0 hin) (rrow_no a0 hin)

set_option maxRecDepth 100000 in
theorem lifted (os : Os) (started : os.Started) (H : Type) (enc : TypeId × Value → H) :
    ReturnsInHanded {} Try.checked os 3 .any (Rows.instKnowsSpec.pre6 enc Try.prog Try.f3 Rows.instKnowsRow.domain false) (Rows.instKnowsSpec.post enc Try.prog Try.f3 false true false false) := by
  refine returnsInHanded_of_change (C := Try.checked) own started (by kernel_rfl) Try.func3
    (ChangeSpec.witness6 (enc := enc) (C := Try.checked) false ⟨#[], #[.agg #[.int .i64 0, .int .i64 0]], []⟩ 8 (by kernel_rfl) (by kernel_rfl) (by kernel_rfl) (by kernel_rfl)) ?_
  intro W base args ds gs before hval0 hW hcnd _
  have hval : ∀ (j : Nat) t v, Try.f3.params[j]? = some t → args[j]? = some v → Value.okWide Try.prog W .any base t v := hval0
  have hW' := hW
  obtain ⟨p, q, hA0, hV, rfl, hfz, hnd⟩ := hW
  have hA : DataW.TrodAll enc Try.prog W 0 (fun _ => true) true Try.f3.params.toList args.toList ds p := hA0
  rw [Try.params3] at hA hval
  obtain ⟨v0, vs0, d0, ds0, p0, q0, hargs, rfl, rfl, h0, r0⟩ := trodAll_cons hA
  obtain ⟨rfl, rfl, rfl⟩ := trodAll_nil r0
  obtain rfl : args = #[v0] := by cases args; simp_all
  obtain ⟨rfl, rfl⟩ := trodVars_none hV
  obtain ⟨c0, c1, y0, y1, m, rfl, rfl, rfl, hy0, hy1⟩ := open_agg2 Try.underlying23 (by kernel_rfl) cellsI (hval 0 23 v0 rfl rfl) h0
  obtain ⟨a, e0, rfl, wa⟩ := DataW.trod_int Try.underlying3 hy0
  obtain ⟨b, e1, rfl, wb⟩ := DataW.trod_int Try.underlying3 hy1
  simp at e0 e1
  subst e0 e1
  clear hA0 hval0
  simp only [List.append_nil] at hW'
  have structReads : ∀ (W' : World) (sp : Nat → Bool), DataW.Trod enc Try.prog W' 0 sp true 23 (.agg #[.int .i64 a, .int .i64 b]) (.agg [.lit (.int .i64 a), .lit (.int .i64 b)]) [] := fun W' sp =>
    shut_agg2 (y0 := (.lit (.int .i64 a), [])) (y1 := (.lit (.int .i64 b), [])) Try.underlying23 (by kernel_rfl) cellsI ⟨1, by simp [DataW.trod, Try.underlying3, wa]⟩ ⟨1, by simp [DataW.trod, Try.underlying3, wb]⟩
  refine (walk a b wa wb W).mono fun e W' ⟨he, hg⟩ => ?_
  subst he
  exact ⟨_, rfl, post_of_same (pa := []) (pv := []) hW' (fun _ _ _ => (trodAll_cons_mk (shut_bool Try.underlying4 _) trodAll_mk0)) (fun sp _ => trodAll_mk1 (structReads _ sp)) (fun _ _ => rfl) rfl
    (hg.frame _) hg.2.1 (ok_one (by kernel_rfl) rfl (okWide_bool_mk Try.underlying4 _))⟩

theorem over : Rows.instKnowsRow.holds Try.pinned (OpenSpec.ofChange Rows.instKnowsSpec) :=
  OpenClaim.holds_of_wide 3 Try.f3 rfl rfl rfl rfl rfl rfl rfl ⟨rfl, rfl, rfl, rfl, rfl⟩ rfl rfl rfl rfl rfl (by kernel_rfl) Try.func3 (by kernel_rfl)
    (of_decide_eq_true (by kernel_rfl)) (by unfold Func.isWrapper; first | (rw [if_pos (by decide +kernel)]; kernel_rfl) | (rw [if_neg (by decide +kernel)]; exact ⟨rfl, rfl⟩))
    (fun os started H enc _ => lifted os started H enc)

theorem proved : Rows.InstKnowsSaid :=
  over
#print axioms proved
end Go.Proofs.Ytdpnbacjlfbfjaa.instKnows
