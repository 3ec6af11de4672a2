/-
  What the program's Run and Heights are to answer, as propositions; the laws' awake and CheckRuns over them.
-/
import Derived.Test.YthjbjbbbbdhcmaaCheckU
import Derived.Test.YthjbjbbbbdhcmaaCheckW
import Derived.Test.YthjbjbbbbdhcmaaProgA
import Derived.Test.YthjbjbbbbdhcmaaProgO
namespace Go.Proofs.Ythjbjbbbbdhcmaa
open Go.ChangeShapes Go.WideShapes Go.ChangeAt Go.RowKit Go.Joins
set_option linter.unusedVariables false

/-- What Run is to answer. -/
def RunC : Prop := ∀ {W : World} {A B : Option Addr} {L : List (Int × Int)} {N : List ByteArray} {ca cb : Nat}, POk W A L ca B N cb →
  Calls Try.prog 10 #[.agg #[.slice A L.length ca, .slice B N.length cb]] W fun e W' => ∃ (k f : Int) (hs : List Int), e = .returned (.tuple #[.int .i64 k, .int .i64 f]) ∧ Is L N k f hs ∧ Gw W W'
/-- What Heights is to answer. -/
def HtsC : Prop := ∀ {W : World} {A B : Option Addr} {L : List (Int × Int)} {N : List ByteArray} {ca cb : Nat}, POk W A L ca B N cb →
  Calls Try.prog 13 #[.agg #[.slice A L.length ca, .slice B N.length cb]] W fun e W' => ∃ (k f : Int) (v : Value) (hs : List Int), e = .returned v ∧ Is L N k f hs ∧ NRow W W' v hs
/-- What the document's own Check answers. -/
def RefC : Prop := ∀ {W : World} {A B : Option Addr} {L : List (Int × Int)} {N : List ByteArray} {ca cb : Nat}, POk W A L ca B N cb →
  Calls Try.prog 11 #[.agg #[.slice A L.length ca, .slice B N.length cb]] W fun e W' => ∃ (k f : Int) (v : Value) (hs : List Int), e = .returned (.tuple #[.int .i64 k, .int .i64 f, v]) ∧ Is L N k f hs ∧ NRow W W' v hs
/-- The laws' awake. -/
def AwC : Prop := ∀ (W : World), Calls Try.prog 8 #[] W fun e W' => e = .returned (.bool true) ∧ Gw W W'
theorem Is.len {L : List (Int × Int)} {N : List ByteArray} {k f : Int} {hs : List Int} (h : Is L N k f hs) : hs.length ≤ 96 := by
  cases h with
  | well a _ _ _ e => rw [e.1]; exact a.l2
  | _ => exact Nat.zero_le _
set_option maxRecDepth 100000 in
set_option maxHeartbeats 8000000 in
theorem runs_walk (r : RunC) (h : HtsC) (rf : RefC) (aw : AwC) {w : World} {A B : Option Addr} {L : List (Int × Int)} {N : List ByteArray} {ca cb : Nat} (h0 : POk w A L ca B N cb) :
    Calls Try.prog 3 #[.agg #[.slice A L.length ca, .slice B N.length cb]] w fun e w' => e = .returned (.bool true) ∧ Gw w w' := by
  obtain ⟨W1, hW1⟩ : ∃ W1, W1 = w.alloc (.cells #[.slice A L.length ca, .slice B N.length cb] 25) := ⟨_, rfl⟩
  have GB := Gw.alloc w (.cells #[.slice A L.length ca, .slice B N.length cb] 25)
  obtain ⟨c0, c1, _, _⟩ := two_cells (heap_alloc_new w (.cells #[.slice A L.length ca, .slice B N.length cb] 25))
  rw [← hW1] at GB c0 c1
  have p0 := h0.gw GB
  have AW := aw W1
  clear h0
  have S0 : ∀ {W : World}, POk W A L ca B N cb → Calls Try.prog 9 #[.agg #[.slice A L.length ca, .slice B N.length cb]] W fun e W' => e = .returned (.bool (smallB L N)) ∧ Grown W W' := fun h => small_any h
  have hn : ∀ b w, (Op.unary .not (.bool b)).run Try.prog w = .ok (.bool (!b)) w := fun _ _ => rfl
  have RR := fun {W : World} (h : POk W A L ca B N cb) => r h
  have HH := fun {W : World} (g : POk W A L ca B N cb) => h g
  have FF := fun {W : World} (h : POk W A L ca B N cb) => rf h
  cases hb0 : smallB L N with
  | false =>
    rw [hb0] at S0
    go_enter Try.func3, Try.ntmps3
    go_upto_region 1 with fail
    rw [← hW1]
    clear hW1
    go_wp2_with (first
      | (go_at_call 8; with_reducible refine AW.mono ?_; rintro e w1 ⟨rfl, G1⟩; have e0 := G1.cell c0; have e1 := G1.cell c1; have P0 := Lib.hid (p0.gw G1); have GW := GB.trans G1)
      | (go_at_call 9; with_reducible refine (S0 P0.out).mono ?_; rintro e w2 ⟨rfl, G2⟩; have G2 := Grown.gw G2; have GW := GW.trans G2))
    go_ret
    exact ⟨rfl, GW⟩
  | true =>
    rw [hb0] at S0
    clear hb0
    go_enter Try.func3, Try.ntmps3
    go_upto_region 1 with fail
    rw [← hW1]
    clear hW1
    go_upto_region 7 with (first
      | (go_at_call 8; with_reducible refine AW.mono ?_; rintro e w1 ⟨rfl, G1⟩; have e0 := G1.cell c0; have e1 := G1.cell c1; have P0 := Lib.hid (p0.gw G1); have GW := GB.trans G1)
      | (go_at_call 9; with_reducible refine (S0 P0.out).mono ?_; rintro e w2 ⟨rfl, G2⟩; have G2 := Grown.gw G2; have e0 := G2.cell e0; have e1 := G2.cell e1; have P0 := Lib.hid (P0.out.gw G2); have GW := GW.trans G2)
      | (go_at_call 10; with_reducible refine (RR P0.out).mono ?_; rintro e w3 ⟨k, f, hs, rfl, I1, G2⟩; have I1 := Lib.hid I1; have e0 := G2.cell e0; have e1 := G2.cell e1; have P0 := Lib.hid (P0.out.gw G2); have GW := GW.trans G2)
      | (go_at_call 11; with_reducible refine (FF P0.out).mono ?_; rintro e w4 ⟨k2, f2, v2, hs2, rfl, I2, R2⟩; have I2 := Lib.hid I2; have G2 := R2.gw; have e0 := G2.cell e0; have e1 := G2.cell e1; have P0 := Lib.hid (P0.out.gw G2); have GW := GW.trans G2))
    obtain ⟨rfl, rfl, rfl⟩ := Is.det I1.out I2.out
    obtain ⟨A2, c2, rfl, NA⟩ := R2.nums
    have NA := Lib.hid NA
    go_wp2_with (first
      | (go_at_call 13; with_reducible refine (HH P0.out).mono ?_; rintro e w5 ⟨k3, f3, v3, hs3, rfl, I3, R3⟩; obtain ⟨rfl, rfl, rfl⟩ := Is.det I1.out I3; obtain ⟨A3, c3, rfl, NB⟩ := R3.nums; have NB := Lib.hid NB; have NA := Lib.hid (NA.out.gw R3.gw); have GW := GW.trans R3.gw)
      | (go_at_call 12; with_reducible refine (nsame_any NB.out NA.out (by have := I1.out.len; omega)).mono ?_; rintro e w6 ⟨rfl, G6⟩; have GW := GW.trans G6))
    go_ret
    exact ⟨by simp, GW⟩
end Go.Proofs.Ythjbjbbbbdhcmaa
