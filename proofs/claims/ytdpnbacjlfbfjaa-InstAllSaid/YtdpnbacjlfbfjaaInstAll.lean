/-
  The law InstAll: the whole table: no name twice, no more taken than three, all that ends or jumps. No condition.
-/
import Derived.Test.YtdpnbacjlfbfjaaInstM
import Derived.ProofKit
import Derived.Deep.QuietTactic
import Derived.BigQuiet
import Derived.OpenShut
namespace Go.Proofs.Ytdpnbacjlfbfjaa.instAll
open Go.ChangeShapes Go.WideShapes Go.ChangeAt Go.RowKit
set_option linter.unusedVariables false

theorem own : ownKnob Try.prog.godebug = none := by kernel_rfl

theorem bmay (m : Nat) (h : m < 41) (a : Int) (b : Bool) (hb : mayB (m + 1) a = b) (W : World) : Calls Try.prog 9 #[.agg #[.int .i64 ((m : Int) + 1), .int .i64 a]] W fun e W' => e = .returned (.bool b) ∧ Grown W W' := by
  subst hb
  exact may_yes (m + 1) a (by omega) (by omega) W
def NS (w : World) (v : Value) (m : Nat) (W : World) : Prop := NRel w W v m

set_option maxRecDepth 100000 in
set_option maxHeartbeats 8000000 in
theorem walk   (w : World) :
    Calls Try.prog 4 #[] w fun e w' => e = .returned (.bool true) ∧ Gw w w' := by
  have hb := build_inst
  have hb0 := build_inst0
  have hn : ∀ b w, (Op.unary .not (.bool b)).run Try.prog w = .ok (.bool (!b)) w := fun _ _ => rfl
  obtain ⟨i0, hi1, hi2, hi3, hi4⟩ := info_str
  have HI := Lib.hid (show _ ∧ _ ∧ _ ∧ _ from ⟨hi1, hi2, hi3, hi4⟩)
  clear hi1 hi2 hi3 hi4
  have c1 : ∀ (m : Nat), m < 41 → ∀ W : World, Calls Try.prog 11 #[.int .i64 ((m : Int) + 1)] W fun e W' => e = .returned (.string (nm (m + 1))) ∧ Grown W W' := fun m h W => name_yes (m + 1) (by omega) (by omega) W
  have c2 : ∀ (m : Nat), m < 41 → ∀ W : World, Calls Try.prog 12 #[.int .i64 ((m : Int) + 1)] W fun e W' => e = .returned (.int .i64 (tk (m + 1))) ∧ Grown W W' := fun m h W => takes_yes (m + 1) (by omega) (by omega) W
  have c3 : ∀ (m : Nat), m < 41 → ∀ W : World, Calls Try.prog 13 #[.int .i64 ((m : Int) + 1)] W fun e W' => e = .returned (.int .i64 (gv (m + 1))) ∧ Grown W W' := fun m h W => gives_yes (m + 1) (by omega) (by omega) W
  go_enter Try.func4, Try.ntmps4
  go_wp2_with (go_at_call 7; with_reducible refine (awake9_any _).mono ?_; rintro e w' ⟨rfl, G1⟩; have GW := Grown.gw G1)
  go_loopw [1, 2] (fun v i wr => ∃ (m : Nat) (A : Option Addr) (cap : Nat), m ≤ 41 ∧ i = .int .i64 ((m : Int) + 1) ∧ v = .slice A m cap ∧ Hid (NRel w wr (.slice A m cap) m)) (fun _ i _ => 42 - (intOf i).toNat)
  case atStart => exact ⟨0, none, 0, by omega, rfl, rfl, NRel.start GW⟩
  case round =>
    obtain ⟨m, A, cap, hm, rfl, rfl, R⟩ := hrel
    replace R := R.out
    by_cases hlt : m < 41
    · have k1 := c1 m hlt
      have k2 := c2 m hlt
      have k3 := c3 m hlt
      have b0 := bmay m hlt 0
      have b1 := bmay m hlt (-1)
      have b2 := bmay m hlt 65536
      obtain ⟨q1, q2, q3, q4, q5, q6, q7, q8⟩ := all_ok m hlt
      replace b0 := b0 _ q5
      replace b1 := b1 _ q6
      replace b2 := b2 _ q7
      have hne : ∀ j, j < m → ((nm (j + 1)).toList == (nm (m + 1)).toList) = false := fun j hj => nm_ne m j hlt hj
      have HNE := Lib.hid hne
      clear q5 q6 q7 hne c1 c2 c3
      have hlt' : (m : Int) + 1 ≤ 41 := by omega
      obtain ⟨wo, hwo⟩ : ∃ x, x = wr := ⟨_, rfl⟩
      subst hwo
      go_wp2_with (go_at_call 11; with_reducible refine (k1 _).mono ?_; rintro e w' ⟨rfl, G1⟩; have R := R.next G1)
      obtain ⟨w2, hw2⟩ : ∃ x, x = w' := ⟨_, rfl⟩
      subst hw2
      go_loopw [4] (fun i wr => ∃ j : Nat, j ≤ m ∧ i = .int .i64 j ∧ wr = w2) (fun i _ => m - (intOf i).toNat)
      case atStart => exact ⟨0, by omega, rfl, rfl⟩
      case round =>
        obtain ⟨j, hj, rfl, rfl⟩ := hrel
        by_cases hjm : j < m
        · obtain ⟨g, rfl, hcell⟩ := R.form (by omega)
          have hc := hcell j hjm
          have he := HNE.out j hjm
          clear hcell
          go_wp2
          refine ⟨⟨j + 1, by omega, by go_num, trivial⟩, ?_⟩
          simp [intOf]
          omega
        · obtain rfl : m = j := by omega
          clear HNE
          have RH := Lib.hid R
          clear R
          go_wp2_with (at_builtin; refine wpList_append_lies _ rfl _ _ _ rfl w.heap.size 9 i0 _ 1 16 Try.underlying31 HI.out.1 HI.out.2.1 HI.out.2.2.1 HI.out.2.2.2 rfl (by omega) (.slice A m cap) m (nms m) rfl (RH.out.own.alloc _) ⟨wr.heap.size, 0, none⟩ 1 1 [.string (nm (m + 1))] rfl rfl (World.news_of_block (cs := #[.string (nm (m + 1))]) (t := 9) (fr := (0, 0)) (heap_alloc_new wr _)) (by simp [Value.oneCell']) (by omega) (by unfold maxLen; omega) (by omega) (by have := RH.out.gw.size; simp; omega) (wr.heap.size + 1) (by simp) ?_; intro g1 c9 wp hown1 hg1 hat1 hlt1; have R := RH.out.more hown1 hg1; clear hown1 hg1 hat1 hlt1)
          go_wp2_with (first | (go_at_call 12; with_reducible refine (k2 _).mono ?_; rintro e w' ⟨rfl, G1⟩; have R := R.next G1) | (go_at_call 13; with_reducible refine (k3 _).mono ?_; rintro e w' ⟨rfl, G1⟩; have R := R.next G1) | (go_at_call 9; with_reducible refine (b0 _).mono ?_; rintro e w' ⟨rfl, G1⟩; have R := R.next G1) | (go_at_call 9; with_reducible refine (b1 _).mono ?_; rintro e w' ⟨rfl, G1⟩; have R := R.next G1) | (go_at_call 9; with_reducible refine (b2 _).mono ?_; rintro e w' ⟨rfl, G1⟩; have R := R.next G1))
          refine ⟨⟨m + 1, some ⟨g1, 0, none⟩, c9, by omega, by go_num, rfl, R⟩, ?_⟩
          simp [intOf]
          omega
    · obtain rfl : m = 41 := by omega
      have GW := R.gw
      have f1 := name_no 0 (by decide)
      have f2 := name_no 42 (by decide)
      have f3 := takes_no 0 (by decide)
      have f4 := gives_no 42 (by decide)
      have f5 := may_no 42 0 (by decide)
      have f6 : ∀ W, Calls Try.prog 9 #[.agg #[.int .i64 34, .int .i64 63]] W fun e W' => e = .returned (.bool true) ∧ Grown W W' := fun W => may_yes 34 63 (by decide) (by decide) W
      have f7 : ∀ W, Calls Try.prog 9 #[.agg #[.int .i64 34, .int .i64 64]] W fun e W' => e = .returned (.bool false) ∧ Grown W W' := fun W => may_yes 34 64 (by decide) (by decide) W
      have f8 : ∀ W, Calls Try.prog 9 #[.agg #[.int .i64 18, .int .i64 8]] W fun e W' => e = .returned (.bool false) ∧ Grown W W' := fun W => may_yes 18 8 (by decide) (by decide) W
      have f9 : ∀ W, Calls Try.prog 9 #[.agg #[.int .i64 2, .int .i64 1]] W fun e W' => e = .returned (.bool false) ∧ Grown W W' := fun W => may_yes 2 1 (by decide) (by decide) W
      clear R c1 c2 c3
      go_wp2_with (first | (go_at_call 11; with_reducible refine (f1 _).mono ?_; rintro e w' ⟨rfl, G1⟩; have GW := GW.trans (Grown.gw G1)) | (go_at_call 11; with_reducible refine (f2 _).mono ?_; rintro e w' ⟨rfl, G1⟩; have GW := GW.trans (Grown.gw G1)) | (go_at_call 12; with_reducible refine (f3 _).mono ?_; rintro e w' ⟨rfl, G1⟩; have GW := GW.trans (Grown.gw G1)) | (go_at_call 13; with_reducible refine (f4 _).mono ?_; rintro e w' ⟨rfl, G1⟩; have GW := GW.trans (Grown.gw G1)) | (go_at_call 9; with_reducible refine (f5 _).mono ?_; rintro e w' ⟨rfl, G1⟩; have GW := GW.trans (Grown.gw G1)) | (go_at_call 9; with_reducible refine (f6 _).mono ?_; rintro e w' ⟨rfl, G1⟩; have GW := GW.trans (Grown.gw G1)) | (go_at_call 9; with_reducible refine (f7 _).mono ?_; rintro e w' ⟨rfl, G1⟩; have GW := GW.trans (Grown.gw G1)) | (go_at_call 9; with_reducible refine (f8 _).mono ?_; rintro e w' ⟨rfl, G1⟩; have GW := GW.trans (Grown.gw G1)) | (go_at_call 9; with_reducible refine (f9 _).mono ?_; rintro e w' ⟨rfl, G1⟩; have GW := GW.trans (Grown.gw G1)))
      go_ret
      exact ⟨rfl, GW⟩

set_option maxRecDepth 100000 in
theorem lifted (os : Os) (started : os.Started) (H : Type) (enc : TypeId × Value → H) :
    ReturnsInHanded {} Try.checked os 4 .any (Rows.instAllSpec.pre6 enc Try.prog Try.f4 Rows.instAllRow.domain false) (Rows.instAllSpec.post enc Try.prog Try.f4 false true false false) := by
  refine returnsInHanded_of_change (C := Try.checked) own started (by kernel_rfl) Try.func4
    (ChangeSpec.witness6 (enc := enc) (C := Try.checked) false ⟨#[], #[], []⟩ 8 (by kernel_rfl) (by kernel_rfl) (by kernel_rfl) (by kernel_rfl)) ?_
  intro W base args ds gs before hval0 hW hcnd _
  have hval : ∀ (j : Nat) t v, Try.f4.params[j]? = some t → args[j]? = some v → Value.okWide Try.prog W .any base t v := hval0
  have hW' := hW
  obtain ⟨p, q, hA0, hV, rfl, hfz, hnd⟩ := hW
  have hA : DataW.TrodAll enc Try.prog W 0 (fun _ => true) true Try.f4.params.toList args.toList ds p := hA0
  rw [Try.params4] at hA hval
  obtain ⟨rfl, rfl, rfl⟩ := trodAll_none hA
  obtain ⟨rfl, rfl⟩ := trodVars_none hV
  clear hA0 hval0
  simp only [List.append_nil] at hW'
  refine (walk  W).mono fun e W' ⟨he, hg⟩ => ?_
  subst he
  exact ⟨_, rfl, post_kept (pa := []) (pv := []) hW' hg (fun _ _ _ => (trodAll_cons_mk (shut_bool Try.underlying4 _) trodAll_mk0)) (fun sp _ => rfl) (fun _ _ => rfl) rfl
    (ok_one (by kernel_rfl) rfl (okWide_bool_mk Try.underlying4 _))⟩

theorem over : Rows.instAllRow.holds Try.pinned (OpenSpec.ofChange Rows.instAllSpec) :=
  OpenClaim.holds_of_wide 4 Try.f4 rfl rfl rfl rfl rfl rfl rfl ⟨rfl, rfl, rfl, rfl, rfl⟩ rfl rfl rfl rfl rfl (by kernel_rfl) Try.func4 (by kernel_rfl)
    (of_decide_eq_true (by kernel_rfl)) (by unfold Func.isWrapper; first | (rw [if_pos (by decide +kernel)]; kernel_rfl) | (rw [if_neg (by decide +kernel)]; exact ⟨rfl, rfl⟩))
    (fun os started H enc _ => lifted os started H enc)

theorem proved : Rows.InstAllSaid :=
  over
#print axioms proved
end Go.Proofs.Ytdpnbacjlfbfjaa.instAll
