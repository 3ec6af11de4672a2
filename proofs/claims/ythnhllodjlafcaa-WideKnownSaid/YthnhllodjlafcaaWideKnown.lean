/-
  The law WideKnown: the numbers by hand: borders, division by nought, shifts by the width, and what is refused. No condition.
-/
import Derived.Test.YthnhllodjlafcaaRef
import Derived.ProofKit
import Derived.BigGuard
import Derived.Deep.QuietTactic
import Derived.BigQuiet
import Derived.OpenShut
namespace Go.Proofs.Ythnhllodjlafcaa.wideKnown
open Go.ChangeShapes Go.WideShapes Go.ChangeAt Go.RowKit
set_option linter.unusedVariables false

theorem own : ownKnob Try.prog.godebug = none := by kernel_rfl

def kop (k : Nat) : Int := [3, 7, 8, 9, 10, 11, 10, 12, 12, 13, 13, 12, 14, 15, 15, 6, 9, 12].getD k 0
def kwd (k : Nat) : Int := [8, 8, 16, 8, 8, 16, 1, 8, 8, 16, 16, 1, 8, 8, 16, 1, 1, 16].getD k 0
def kfa (k : Nat) : Int := [511, 200, 0, 16, 7, 7, 1, 1, 1, 32768, 32768, 1, 257, 256, 32768, 1, 1, 1].getD k 0
def kfb (k : Nat) : Int := [0, 100, 1, 16, 0, 0, 0, 7, 8, 15, 16, 1, 1, 1, 1, 1, 1, 256].getD k 0
def kva (k : Nat) : Int := [0, 44, 65535, 0, 255, 7, 1, 128, 0, 1, 0, 0, 1, 1, 0, 0, 1, 0].getD k 0
def knownCells : Array Value := #[.int .i64 3, .int .i64 8, .int .u16 511, .int .u16 0, .int .u16 0, .int .i64 7, .int .i64 8, .int .u16 200, .int .u16 100, .int .u16 44, .int .i64 8, .int .i64 16, .int .u16 0, .int .u16 1, .int .u16 65535, .int .i64 9, .int .i64 8, .int .u16 16, .int .u16 16, .int .u16 0, .int .i64 10, .int .i64 8, .int .u16 7, .int .u16 0, .int .u16 255, .int .i64 11, .int .i64 16, .int .u16 7, .int .u16 0, .int .u16 7, .int .i64 10, .int .i64 1, .int .u16 1, .int .u16 0, .int .u16 1, .int .i64 12, .int .i64 8, .int .u16 1, .int .u16 7, .int .u16 128, .int .i64 12, .int .i64 8, .int .u16 1, .int .u16 8, .int .u16 0, .int .i64 13, .int .i64 16, .int .u16 32768, .int .u16 15, .int .u16 1, .int .i64 13, .int .i64 16, .int .u16 32768, .int .u16 16, .int .u16 0, .int .i64 12, .int .i64 1, .int .u16 1, .int .u16 1, .int .u16 0, .int .i64 14, .int .i64 8, .int .u16 257, .int .u16 1, .int .u16 1, .int .i64 15, .int .i64 8, .int .u16 256, .int .u16 1, .int .u16 1, .int .i64 15, .int .i64 16, .int .u16 32768, .int .u16 1, .int .u16 0, .int .i64 6, .int .i64 1, .int .u16 1, .int .u16 1, .int .u16 0, .int .i64 9, .int .i64 1, .int .u16 1, .int .u16 1, .int .u16 1, .int .i64 12, .int .i64 16, .int .u16 1, .int .u16 256, .int .u16 0]
instance mayDec (w : Int) : Decidable (mayw w) := inferInstanceAs (Decidable (w = 1 ∨ w = 8 ∨ w = 16))
def rowOk (k : Nat) : Prop := mayw (kwd k) ∧ 3 ≤ kop k ∧ kop k ≤ 15 ∧ 0 ≤ kfa k ∧ kfa k ≤ 65535 ∧ 0 ≤ kfb k ∧ kfb k ≤ 65535 ∧ doM (kop k) (kwd k) (low (kwd k) (kfa k)) (low (kwd k) (kfb k)) = kva k
instance rowDec (k : Nat) : Decidable (rowOk k) := by unfold rowOk; infer_instance
theorem row_ok (k : Nat) (h : k < 18) : rowOk k := by
  have all : ∀ j : Fin 18, rowOk j.val := by decide +kernel
  exact all ⟨k, h⟩
theorem row_do (k : Nat) (h : k < 18) (W : World) :
    Calls Try.prog 10 #[.int .i64 (kop k), .int .i64 (kwd k), .int .u16 (kfa k), .int .u16 (kfb k)] W fun e W' => e = .returned (.tuple #[.int .u16 (kva k), .int .i64 0]) ∧ W' = W := by
  obtain ⟨hw, h0, h1, a0, a1, b0, b1, e⟩ := row_ok k h
  rw [← e]
  exact (do_yes _ _ _ _ W hw h0 h1 a0 a1 b0 b1).mono fun _ _ ⟨he, hw⟩ => ⟨he, hw.symm⟩
theorem cells_at (k : Nat) (h : k < 18) : knownCells[k * 5]? = some (.int .i64 (kop k)) ∧ knownCells[k * 5 + 1]? = some (.int .i64 (kwd k)) ∧ knownCells[k * 5 + 2]? = some (.int .u16 (kfa k))
    ∧ knownCells[k * 5 + 3]? = some (.int .u16 (kfb k)) ∧ knownCells[k * 5 + 4]? = some (.int .u16 (kva k)) := by
  match k, h with
  | 0, _ => exact ⟨rfl, rfl, rfl, rfl, rfl⟩
  | 1, _ => exact ⟨rfl, rfl, rfl, rfl, rfl⟩
  | 2, _ => exact ⟨rfl, rfl, rfl, rfl, rfl⟩
  | 3, _ => exact ⟨rfl, rfl, rfl, rfl, rfl⟩
  | 4, _ => exact ⟨rfl, rfl, rfl, rfl, rfl⟩
  | 5, _ => exact ⟨rfl, rfl, rfl, rfl, rfl⟩
  | 6, _ => exact ⟨rfl, rfl, rfl, rfl, rfl⟩
  | 7, _ => exact ⟨rfl, rfl, rfl, rfl, rfl⟩
  | 8, _ => exact ⟨rfl, rfl, rfl, rfl, rfl⟩
  | 9, _ => exact ⟨rfl, rfl, rfl, rfl, rfl⟩
  | 10, _ => exact ⟨rfl, rfl, rfl, rfl, rfl⟩
  | 11, _ => exact ⟨rfl, rfl, rfl, rfl, rfl⟩
  | 12, _ => exact ⟨rfl, rfl, rfl, rfl, rfl⟩
  | 13, _ => exact ⟨rfl, rfl, rfl, rfl, rfl⟩
  | 14, _ => exact ⟨rfl, rfl, rfl, rfl, rfl⟩
  | 15, _ => exact ⟨rfl, rfl, rfl, rfl, rfl⟩
  | 16, _ => exact ⟨rfl, rfl, rfl, rfl, rfl⟩
  | 17, _ => exact ⟨rfl, rfl, rfl, rfl, rfl⟩
  | n + 18, h => exact absurd h (by omega)
/-- The world once the rows are laid, however often an order was drawn. -/
def Laid (w wr : World) : Prop := ∃ n, wr = (w.alloc (.cells knownCells 34)).drewN n
theorem Laid.drewN {w wr : World} (h : Laid w wr) (m : Nat) : Laid w (wr.drewN m) := by
  obtain ⟨n, rfl⟩ := h
  exact ⟨n + m, by rw [World.drewN_drewN]⟩
theorem Laid.cell {w wr : World} (h : Laid w wr) (i : Nat) : wr.cell? ⟨w.heap.size, i, none⟩ = knownCells[i]? := by
  obtain ⟨n, rfl⟩ := h
  rw [World.cell?_drewN]
  exact World.cell?_alloc_new _ _ _ _
theorem grown_drewN {w wr : World} (h : Grown w wr) : ∀ n, Grown w (wr.drewN n)
  | 0 => h
  | n + 1 => grown_drewN h.drew n
theorem Laid.grown {w wr : World} (h : Laid w wr) : Grown w wr := by
  obtain ⟨n, rfl⟩ := h
  exact grown_drewN ((Grown.refl _).alloc _ _) n
theorem Laid.at {w wr : World} (h : Laid w wr) (k : Nat) (hk : k < 18) :
    wr.cell? ⟨w.heap.size, k * 5, none⟩ = some (.int .i64 (kop k)) ∧ wr.cell? ⟨w.heap.size, k * 5 + 1, none⟩ = some (.int .i64 (kwd k)) ∧ wr.cell? ⟨w.heap.size, k * 5 + 2, none⟩ = some (.int .u16 (kfa k))
    ∧ wr.cell? ⟨w.heap.size, k * 5 + 3, none⟩ = some (.int .u16 (kfb k)) ∧ wr.cell? ⟨w.heap.size, k * 5 + 4, none⟩ = some (.int .u16 (kva k)) := by
  simp only [h.cell]
  exact cells_at k hk

set_option maxRecDepth 100000 in
set_option maxHeartbeats 2000000 in
theorem walk   (w : World) :
    Calls Try.prog 4 #[] w fun e w' => e = .returned (.bool true) ∧ Grown w w' := by
  have e1 : ∀ W : World, Calls Try.prog 10 #[.int .i64 7, .int .i64 4, .int .u16 1, .int .u16 1] W fun e W' => e = .returned (.tuple #[.int .u16 0, .int .i64 2]) ∧ W = W' := fun W => do_width 7 4 1 1 W (by decide)
  have e2 : ∀ W : World, Calls Try.prog 10 #[.int .i64 16, .int .i64 8, .int .u16 1, .int .u16 1] W fun e W' => e = .returned (.tuple #[.int .u16 0, .int .i64 5]) ∧ W = W' := fun W => do_op 16 8 1 1 W (by decide) (by decide)
  have e3 : ∀ W : World, Calls Try.prog 10 #[.int .i64 0, .int .i64 9, .int .u16 1, .int .u16 1] W fun e W' => e = .returned (.tuple #[.int .u16 0, .int .i64 2]) ∧ W = W' := fun W => do_width 0 9 1 1 W (by decide)
  have e4 : ∀ W : World, Calls Try.prog 17 #[.int .i64 1, .int .u16 1] W fun e W' => e = .returned (.int .i64 (-1)) ∧ W = W' := fun W => signed_yes 1 1 W (by decide) (by decide) (by decide)
  have e5 : ∀ W : World, Calls Try.prog 17 #[.int .i64 16, .int .u16 32768] W fun e W' => e = .returned (.int .i64 (-32768)) ∧ W = W' := fun W => signed_yes 16 32768 W (by decide) (by decide) (by decide)
  have e6 : ∀ W : World, Calls Try.prog 18 #[.int .i64 1, .int .i64 6] W fun e W' => e = .returned (.int .u16 0) ∧ W = W' := fun W => of_yes 1 6 W (by decide)
  have e7 : ∀ W : World, Calls Try.prog 18 #[.int .i64 16, .int .i64 (-2)] W fun e W' => e = .returned (.int .u16 65534) ∧ W = W' := fun W => of_yes 16 (-2) W (by decide)
  have e8 : ∀ W : World, Calls Try.prog 15 #[.int .i64 7] W fun e W' => e = .returned (.int .u16 0) ∧ W = W' := fun W => mask_no 7 W (by decide)
  have e9 : ∀ W : World, Calls Try.prog 12 #[.int .i64 2, .int .i64 8] W fun e W' => e = .returned (.int .i64 0) ∧ W = W' := fun W => out_no 2 8 W (by decide)
  go_enter Try.func4, Try.ntmps4
  go_wp2_with (first | (go_at_call 9; ((with_reducible refine (awake_any _).mono ?_); rintro e w' ⟨rfl, rfl⟩)) | fail)
  go_loopw [2] (fun i wr => ∃ k : Nat, k ≤ 18 ∧ i = .int .i64 k ∧ Laid w wr) (fun i _ => 18 - (intOf i).toNat)
  case atStart => exact ⟨0, by omega, rfl, 0, rfl⟩
  case round =>
    obtain ⟨k, hk, rfl, hl⟩ := hrel
    by_cases hlt : k < 18
    · obtain ⟨c0, c1, c2, c3, c4⟩ := hl.at k hlt
      have HL := Lib.hid hl
      clear hl
      go_wp2
      go_quiet ((go_at_call 10; exact Calls.quiet_of_same (row_do k hlt _)))
      go_wp2
      go_roundw
      case rel => exact ⟨k + 1, by omega, by go_num, HL.out.drewN _⟩
      case measure => simp [intOf]; omega
    · obtain rfl : k = 18 := by omega
      have HL := Lib.hid hl
      clear hl
      go_wp2_with (first | (go_at_call 10; ((with_reducible refine (e1 _).mono ?_); rintro e w' ⟨rfl, rfl⟩)) | (go_at_call 10; ((with_reducible refine (e2 _).mono ?_); rintro e w' ⟨rfl, rfl⟩)) | (go_at_call 10; ((with_reducible refine (e3 _).mono ?_); rintro e w' ⟨rfl, rfl⟩)) | (go_at_call 17; ((with_reducible refine (e4 _).mono ?_); rintro e w' ⟨rfl, rfl⟩)) | (go_at_call 17; ((with_reducible refine (e5 _).mono ?_); rintro e w' ⟨rfl, rfl⟩)) | (go_at_call 18; ((with_reducible refine (e6 _).mono ?_); rintro e w' ⟨rfl, rfl⟩)) | (go_at_call 18; ((with_reducible refine (e7 _).mono ?_); rintro e w' ⟨rfl, rfl⟩)) | (go_at_call 15; ((with_reducible refine (e8 _).mono ?_); rintro e w' ⟨rfl, rfl⟩)) | (go_at_call 12; ((with_reducible refine (e9 _).mono ?_); rintro e w' ⟨rfl, rfl⟩)))
      go_ret
      exact ⟨rfl, HL.out.grown⟩

set_option maxRecDepth 100000 in
theorem lifted (os : Os) (started : os.Started) (H : Type) (enc : TypeId × Value → H) :
    ReturnsInHanded {} Try.checked os 4 .any (Rows.wideKnownSpec.pre6 enc Try.prog Try.f4 Rows.wideKnownRow.domain false) (Rows.wideKnownSpec.post enc Try.prog Try.f4 false true false false) := by
  refine returnsInHanded_of_change (C := Try.checked) own started (by kernel_rfl) Try.func4
    (ChangeSpec.witness6 (enc := enc) (C := Try.checked) false ⟨#[], #[], []⟩ 8 (by kernel_rfl) (by kernel_rfl) (by kernel_rfl) (by kernel_rfl)) ?_
  intro W base args ds gs before hval0 hW hcnd _
  have hval : ∀ (j : Nat) t v, Try.f4.params[j]? = some t → args[j]? = some v → Value.okWide Try.prog W .any base t v := hval0
  have hW' := hW
  obtain ⟨p, q, hA0, hV, rfl, hfz, hnd⟩ := hW
  have hA : DataW.TrodAll enc Try.prog W 0 (fun _ => true) true Try.f4.params.toList args.toList ds p := hA0
  rw [Try.params4] at hA hval
  obtain ⟨rfl, rfl, rfl⟩ := trodAll_none hA
  obtain ⟨rfl, rfl⟩ := trodVars_none hV
  clear hA0 hval0
  simp only [List.append_nil] at hW'
  refine (walk  W).mono fun e W' ⟨he, hg⟩ => ?_
  subst he
  exact ⟨_, rfl, post_of_same (pa := []) (pv := []) hW' (fun _ _ _ => (trodAll_cons_mk (shut_bool Try.underlying4 _) trodAll_mk0)) (fun sp _ => rfl) (fun _ _ => rfl) rfl
    (hg.frame _) hg.2.1 (ok_one (by kernel_rfl) rfl (okWide_bool_mk Try.underlying4 _))⟩

theorem over : Rows.wideKnownRow.holds Try.pinned (OpenSpec.ofChange Rows.wideKnownSpec) :=
  OpenClaim.holds_of_wide 4 Try.f4 rfl rfl rfl rfl rfl rfl rfl ⟨rfl, rfl, rfl, rfl, rfl⟩ rfl rfl rfl rfl rfl (by kernel_rfl) Try.func4 (by kernel_rfl)
    (of_decide_eq_true (by kernel_rfl)) (by unfold Func.isWrapper; first | (rw [if_pos (by decide +kernel)]; kernel_rfl) | (rw [if_neg (by decide +kernel)]; exact ⟨rfl, rfl⟩))
    (fun os started H enc _ => lifted os started H enc)

theorem proved : Rows.WideKnownSaid :=
  over
#print axioms proved
end Go.Proofs.Ythnhllodjlafcaa.wideKnown
