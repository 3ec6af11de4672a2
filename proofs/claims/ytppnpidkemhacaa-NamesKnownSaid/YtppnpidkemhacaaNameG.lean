/-
  Stage 12's laws over what May, Split, Deep, Less are to answer: NamesKnown.
-/
import Derived.Test.YtppnpidkemhacaaNameC
namespace Go.Proofs.Ytppnpidkemhacaa
open Go.ChangeShapes Go.WideShapes Go.ChangeAt Go.RowKit Go.Joins
set_option linter.unusedVariables false

def okL : List ByteArray := [⟨#[97]⟩, ⟨#[97, 46, 98]⟩, ⟨#[95]⟩, ⟨#[97, 47, 98]⟩, ⟨#[46, 46, 97]⟩, ⟨#[49, 50, 51, 52, 53, 54, 55, 56]⟩, ⟨#[97, 98, 99, 47, 100, 101, 102, 103]⟩, ⟨#[48, 47, 48]⟩]
def badL : List ByteArray := [⟨#[]⟩, ⟨#[46]⟩, ⟨#[46, 46]⟩, ⟨#[47]⟩, ⟨#[97, 47]⟩, ⟨#[47, 97]⟩, ⟨#[97, 47, 46]⟩, ⟨#[46, 46, 47, 97]⟩, ⟨#[97, 47, 98, 47, 99]⟩, ⟨#[49, 50, 51, 52, 53, 54, 55, 56, 57]⟩, ⟨#[65]⟩, ⟨#[97, 32, 98]⟩, ⟨#[97, 45, 98]⟩, ⟨#[97, 98, 99, 100, 47, 101, 102, 103, 104]⟩]
theorem okL_all {k : Nat} (h : k < 8) : nameB (okL.getD k ⟨#[]⟩).data.toList = true ∧ 1 ≤ deepB (okL.getD k ⟨#[]⟩).data.toList ∧ (okL.getD k ⟨#[]⟩).size ≤ 20 := by
  have all : ∀ k : Fin 8, nameB (okL.getD k.val ⟨#[]⟩).data.toList = true ∧ 1 ≤ deepB (okL.getD k.val ⟨#[]⟩).data.toList ∧ (okL.getD k.val ⟨#[]⟩).size ≤ 20 := by decide +kernel
  exact all ⟨k, h⟩
theorem badL_all {k : Nat} (h : k < 14) : nameB (badL.getD k ⟨#[]⟩).data.toList = false ∧ (badL.getD k ⟨#[]⟩).size ≤ 20 := by
  have all : ∀ k : Fin 14, nameB (badL.getD k.val ⟨#[]⟩).data.toList = false ∧ (badL.getD k.val ⟨#[]⟩).size ≤ 20 := by decide +kernel
  exact all ⟨k, h⟩
theorem okL_at {k : Nat} (h : k < 8) : (#[.string ⟨#[97]⟩, .string ⟨#[97, 46, 98]⟩, .string ⟨#[95]⟩, .string ⟨#[97, 47, 98]⟩, .string ⟨#[46, 46, 97]⟩, .string ⟨#[49, 50, 51, 52, 53, 54, 55, 56]⟩, .string ⟨#[97, 98, 99, 47, 100, 101, 102, 103]⟩, .string ⟨#[48, 47, 48]⟩] : Array Value)[k]? = some (.string (okL.getD k ⟨#[]⟩)) := by
  rcases (by omega : k = 0 ∨ k = 1 ∨ k = 2 ∨ k = 3 ∨ k = 4 ∨ k = 5 ∨ k = 6 ∨ k = 7) with rfl | rfl | rfl | rfl | rfl | rfl | rfl | rfl <;> rfl
theorem badL_at {k : Nat} (h : k < 14) : (#[.string ⟨#[]⟩, .string ⟨#[46]⟩, .string ⟨#[46, 46]⟩, .string ⟨#[47]⟩, .string ⟨#[97, 47]⟩, .string ⟨#[47, 97]⟩, .string ⟨#[97, 47, 46]⟩, .string ⟨#[46, 46, 47, 97]⟩, .string ⟨#[97, 47, 98, 47, 99]⟩, .string ⟨#[49, 50, 51, 52, 53, 54, 55, 56, 57]⟩, .string ⟨#[65]⟩, .string ⟨#[97, 32, 98]⟩, .string ⟨#[97, 45, 98]⟩, .string ⟨#[97, 98, 99, 100, 47, 101, 102, 103, 104]⟩] : Array Value)[k]? = some (.string (badL.getD k ⟨#[]⟩)) := by
  rcases (by omega : k = 0 ∨ k = 1 ∨ k = 2 ∨ k = 3 ∨ k = 4 ∨ k = 5 ∨ k = 6 ∨ k = 7 ∨ k = 8 ∨ k = 9 ∨ k = 10 ∨ k = 11 ∨ k = 12 ∨ k = 13) with rfl | rfl | rfl | rfl | rfl | rfl | rfl | rfl | rfl | rfl | rfl | rfl | rfl | rfl <;> rfl
set_option maxRecDepth 100000 in
set_option maxHeartbeats 8000000 in
theorem nknown_walk (hm : MayC) (hs : SplitC) (hd : DeepC) (hl : LessC) (aw : AwN) (w : World) :
    Calls Try.prog 4 #[] w fun e w' => e = .returned (.bool true) ∧ Gw w w' := by
  have AW := aw w
  have hn : ∀ b w, (Op.unary .not (.bool b)).run Try.prog w = .ok (.bool (!b)) w := fun _ _ => rfl
  have L0 : ∀ w, Calls Try.prog 13 #[.string ⟨#[98]⟩, .string ⟨#[97, 47, 97]⟩] w fun e W' => e = .returned (.bool true) ∧ Gw w W' := fun w => by
    have := hl ⟨#[98]⟩ ⟨#[97, 47, 97]⟩ w (by decide) (by decide)
    rw [show lessN (⟨#[98]⟩ : ByteArray).data.toList (⟨#[97, 47, 97]⟩ : ByteArray).data.toList = true by decide +kernel] at this
    exact this
  have L1 : ∀ w, Calls Try.prog 13 #[.string ⟨#[97, 47, 97]⟩, .string ⟨#[98]⟩] w fun e W' => e = .returned (.bool false) ∧ Gw w W' := fun w => by
    have := hl ⟨#[97, 47, 97]⟩ ⟨#[98]⟩ w (by decide) (by decide)
    rw [show lessN (⟨#[97, 47, 97]⟩ : ByteArray).data.toList (⟨#[98]⟩ : ByteArray).data.toList = false by decide +kernel] at this
    exact this
  have L2 : ∀ w, Calls Try.prog 13 #[.string ⟨#[97, 47, 97]⟩, .string ⟨#[97, 47, 98]⟩] w fun e W' => e = .returned (.bool true) ∧ Gw w W' := fun w => by
    have := hl ⟨#[97, 47, 97]⟩ ⟨#[97, 47, 98]⟩ w (by decide) (by decide)
    rw [show lessN (⟨#[97, 47, 97]⟩ : ByteArray).data.toList (⟨#[97, 47, 98]⟩ : ByteArray).data.toList = true by decide +kernel] at this
    exact this
  have L3 : ∀ w, Calls Try.prog 13 #[.string ⟨#[97]⟩, .string ⟨#[97]⟩] w fun e W' => e = .returned (.bool false) ∧ Gw w W' := fun w => by
    have := hl ⟨#[97]⟩ ⟨#[97]⟩ w (by decide) (by decide)
    rw [show lessN (⟨#[97]⟩ : ByteArray).data.toList (⟨#[97]⟩ : ByteArray).data.toList = false by decide +kernel] at this
    exact this
  have L4 : ∀ w, Calls Try.prog 13 #[.string ⟨#[97, 47, 122]⟩, .string ⟨#[98, 47, 97]⟩] w fun e W' => e = .returned (.bool true) ∧ Gw w W' := fun w => by
    have := hl ⟨#[97, 47, 122]⟩ ⟨#[98, 47, 97]⟩ w (by decide) (by decide)
    rw [show lessN (⟨#[97, 47, 122]⟩ : ByteArray).data.toList (⟨#[98, 47, 97]⟩ : ByteArray).data.toList = true by decide +kernel] at this
    exact this
  go_enter Try.func4, Try.ntmps4
  go_upto_region 3 with (go_at_call 7; with_reducible refine AW.mono ?_; rintro e w1 ⟨rfl, G1⟩)
  have HO0 := Lib.hid (Has.new w1 9 #[.string ⟨#[97]⟩, .string ⟨#[97, 46, 98]⟩, .string ⟨#[95]⟩, .string ⟨#[97, 47, 98]⟩, .string ⟨#[46, 46, 97]⟩, .string ⟨#[49, 50, 51, 52, 53, 54, 55, 56]⟩, .string ⟨#[97, 98, 99, 47, 100, 101, 102, 103]⟩, .string ⟨#[48, 47, 48]⟩])
  have HB0 := Lib.hid (Has.new (w1.alloc (.cells #[.string ⟨#[97]⟩, .string ⟨#[97, 46, 98]⟩, .string ⟨#[95]⟩, .string ⟨#[97, 47, 98]⟩, .string ⟨#[46, 46, 97]⟩, .string ⟨#[49, 50, 51, 52, 53, 54, 55, 56]⟩, .string ⟨#[97, 98, 99, 47, 100, 101, 102, 103]⟩, .string ⟨#[48, 47, 48]⟩] 9)) 9 #[.string ⟨#[]⟩, .string ⟨#[46]⟩, .string ⟨#[46, 46]⟩, .string ⟨#[47]⟩, .string ⟨#[97, 47]⟩, .string ⟨#[47, 97]⟩, .string ⟨#[97, 47, 46]⟩, .string ⟨#[46, 46, 47, 97]⟩, .string ⟨#[97, 47, 98, 47, 99]⟩, .string ⟨#[49, 50, 51, 52, 53, 54, 55, 56, 57]⟩, .string ⟨#[65]⟩, .string ⟨#[97, 32, 98]⟩, .string ⟨#[97, 45, 98]⟩, .string ⟨#[97, 98, 99, 100, 47, 101, 102, 103, 104]⟩])
  have HO := Lib.hid (HO0.out.on (Gw.alloc _ (.cells #[.string ⟨#[]⟩, .string ⟨#[46]⟩, .string ⟨#[46, 46]⟩, .string ⟨#[47]⟩, .string ⟨#[97, 47]⟩, .string ⟨#[47, 97]⟩, .string ⟨#[97, 47, 46]⟩, .string ⟨#[46, 46, 47, 97]⟩, .string ⟨#[97, 47, 98, 47, 99]⟩, .string ⟨#[49, 50, 51, 52, 53, 54, 55, 56, 57]⟩, .string ⟨#[65]⟩, .string ⟨#[97, 32, 98]⟩, .string ⟨#[97, 45, 98]⟩, .string ⟨#[97, 98, 99, 100, 47, 101, 102, 103, 104]⟩] 9)))
  have GG := Lib.hid (G1.trans ((Gw.alloc w1 (.cells #[.string ⟨#[97]⟩, .string ⟨#[97, 46, 98]⟩, .string ⟨#[95]⟩, .string ⟨#[97, 47, 98]⟩, .string ⟨#[46, 46, 97]⟩, .string ⟨#[49, 50, 51, 52, 53, 54, 55, 56]⟩, .string ⟨#[97, 98, 99, 47, 100, 101, 102, 103]⟩, .string ⟨#[48, 47, 48]⟩] 9)).trans (Gw.alloc _ (.cells #[.string ⟨#[]⟩, .string ⟨#[46]⟩, .string ⟨#[46, 46]⟩, .string ⟨#[47]⟩, .string ⟨#[97, 47]⟩, .string ⟨#[47, 97]⟩, .string ⟨#[97, 47, 46]⟩, .string ⟨#[46, 46, 47, 97]⟩, .string ⟨#[97, 47, 98, 47, 99]⟩, .string ⟨#[49, 50, 51, 52, 53, 54, 55, 56, 57]⟩, .string ⟨#[65]⟩, .string ⟨#[97, 32, 98]⟩, .string ⟨#[97, 45, 98]⟩, .string ⟨#[97, 98, 99, 100, 47, 101, 102, 103, 104]⟩] 9))))
  rw [size_alloc] at HB0
  clear HO0 AW G1
  go_upto_region 5 with fail
  generalize (w1.alloc (.cells #[.string ⟨#[97]⟩, .string ⟨#[97, 46, 98]⟩, .string ⟨#[95]⟩, .string ⟨#[97, 47, 98]⟩, .string ⟨#[46, 46, 97]⟩, .string ⟨#[49, 50, 51, 52, 53, 54, 55, 56]⟩, .string ⟨#[97, 98, 99, 47, 100, 101, 102, 103]⟩, .string ⟨#[48, 47, 48]⟩] 9)).alloc (.cells #[.string ⟨#[]⟩, .string ⟨#[46]⟩, .string ⟨#[46, 46]⟩, .string ⟨#[47]⟩, .string ⟨#[97, 47]⟩, .string ⟨#[47, 97]⟩, .string ⟨#[97, 47, 46]⟩, .string ⟨#[46, 46, 47, 97]⟩, .string ⟨#[97, 47, 98, 47, 99]⟩, .string ⟨#[49, 50, 51, 52, 53, 54, 55, 56, 57]⟩, .string ⟨#[65]⟩, .string ⟨#[97, 32, 98]⟩, .string ⟨#[97, 45, 98]⟩, .string ⟨#[97, 98, 99, 100, 47, 101, 102, 103, 104]⟩] 9) = w2 at *
  generalize w1.heap.size = go at *
  generalize hgb : go + 1 = gb at *
  clear hgb
  go_wp2
  go_loopw [3] (fun i wr => ∃ k : Nat, k ≤ 8 ∧ i = .int .i64 k ∧ Hid (Gw w2 wr)) (fun i _ => 8 - (intOf i).toNat)
  case atStart => exact ⟨0, by omega, rfl, Gw.refl _⟩
  case round =>
    obtain ⟨k, hk, rfl, G⟩ := hrel
    by_cases hlt : k < 8
    · obtain ⟨o1, o2, o3⟩ := okL_all hlt
      have ck : wr.cell? ⟨go, k, none⟩ = some (.string (okL.getD k ⟨#[]⟩)) := ((HO.out.on G.out).cell k).trans (okL_at hlt)
      have MK := fun w => hm (okL.getD k ⟨#[]⟩) w (by omega)
      have DK := fun w => hd (okL.getD k ⟨#[]⟩) w (by omega)
      rw [o1] at MK
      generalize deepB (okL.getD k ⟨#[]⟩).data.toList = dk at *
      generalize okL.getD k ⟨#[]⟩ = sk at *
      have kI : (k : Int) < 8 := by omega
      have d1 : decide (dk < 1) = false := decide_eq_false (by omega)
      clear o1 o2 o3
      go_wp2_with (first
        | (go_at_call 11; with_reducible refine (MK _).mono ?_; rintro e w5 ⟨rfl, G5⟩; have ck5 := G5.cell ck)
        | (go_at_call 12; with_reducible refine (DK _).mono ?_; rintro e w6 ⟨rfl, G6⟩))
      go_roundw
      case rel => exact ⟨k + 1, by omega, by go_num, G.out.trans (G5.trans G6)⟩
      case measure => simp [intOf]; omega
    · obtain rfl : k = 8 := by omega
      have HB := Lib.hid (HB0.out.on G.out)
      have G8 := Lib.hid (GG.out.trans G.out)
      obtain ⟨wo, hwo⟩ : ∃ x, x = wr := ⟨_, rfl⟩
      subst hwo
      clear hlt hk G HO HB0 GG
      go_upto_region 10 with fail
      generalize hz8 : ((8 : Nat) : Int) = z8
      clear hz8
      go_wp2
      go_loopw [4] (fun i wr => ∃ k : Nat, k ≤ 14 ∧ i = .int .i64 k ∧ Hid (Gw wo wr)) (fun i _ => 14 - (intOf i).toNat)
      case atStart => exact ⟨0, by omega, rfl, Gw.refl _⟩
      case round =>
        obtain ⟨k, hk, rfl, G⟩ := hrel
        by_cases hlt : k < 14
        · obtain ⟨o1, o3⟩ := badL_all hlt
          have ck : wr.cell? ⟨gb, k, none⟩ = some (.string (badL.getD k ⟨#[]⟩)) := ((HB.out.on G.out).cell k).trans (badL_at hlt)
          have MK := fun w => hm (badL.getD k ⟨#[]⟩) w (by omega)
          have DK := fun w => hd (badL.getD k ⟨#[]⟩) w (by omega)
          have SK := fun w => hs (badL.getD k ⟨#[]⟩) w (by omega)
          rw [o1] at MK
          rw [spl_no o1] at SK
          rw [show deepB (badL.getD k ⟨#[]⟩).data.toList = 0 by unfold deepB; rw [if_neg (by rw [o1]; decide)]] at DK
          have kI : (k : Int) < 14 := by omega
          have q2 : (bs []).toList.isEmpty = true := by rw [bs_list]; rfl
          simp only at SK
          generalize bs [] = en at *
          generalize badL.getD k ⟨#[]⟩ = sk at *
          clear o1 o3
          go_wp2_with (first
            | (go_at_call 8; with_reducible refine (SK _).mono ?_; rintro e w4 ⟨rfl, G4⟩; have ck4 := G4.cell ck)
            | (go_at_call 11; with_reducible refine (MK _).mono ?_; rintro e w5 ⟨rfl, G5⟩; have ck5 := G5.cell ck4)
            | (go_at_call 12; with_reducible refine (DK _).mono ?_; rintro e w6 ⟨rfl, G6⟩))
          go_roundw
          case rel => exact ⟨k + 1, by omega, by go_num, G.out.trans (G4.trans (G5.trans G6))⟩
          case measure => simp [intOf]; omega
        · obtain rfl : k = 14 := by omega
          go_wp2_with (go_at_call 13; first | (with_reducible refine (L0 _).mono ?_; rintro e w8 ⟨rfl, G8a⟩; have GX := G8a) | (with_reducible refine (L1 _).mono ?_; rintro e w8 ⟨rfl, G8a⟩; have GX := GX.trans G8a) | (with_reducible refine (L2 _).mono ?_; rintro e w8 ⟨rfl, G8a⟩; have GX := GX.trans G8a) | (with_reducible refine (L3 _).mono ?_; rintro e w8 ⟨rfl, G8a⟩; have GX := GX.trans G8a) | (with_reducible refine (L4 _).mono ?_; rintro e w8 ⟨rfl, G8a⟩; have GX := GX.trans G8a))
          go_ret
          exact ⟨by simp, G8.out.trans (G.out.trans GX)⟩
end Go.Proofs.Ytppnpidkemhacaa
