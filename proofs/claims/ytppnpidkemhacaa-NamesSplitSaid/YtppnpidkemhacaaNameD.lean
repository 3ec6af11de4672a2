/-
  Stage 12's laws over what May, Split, Deep, Less are to answer: NamesSplit, NamesOrder, NamesJoin.
-/
import Derived.Test.YtppnpidkemhacaaNameC
namespace Go.Proofs.Ytppnpidkemhacaa
open Go.ChangeShapes Go.WideShapes Go.ChangeAt Go.RowKit Go.Joins
set_option linter.unusedVariables false

theorem less_eq (a b : List UInt8) : lessN a b = (Op.bytesLess (bs (spl a).1).toList (bs (spl b).1).toList || ((bs (spl a).1).toList == (bs (spl b).1).toList && Op.bytesLess (bs (spl a).2).toList (bs (spl b).2).toList)) := by
  rw [bs_list, bs_list, bs_list, bs_list, bytesLess_eq, bytesLess_eq]
  rfl
set_option maxRecDepth 100000 in
set_option maxHeartbeats 8000000 in
theorem nsplit_walk (hm : MayC) (hs : SplitC) (hd : DeepC) (hl : LessC) (aw : AwN) (s t : ByteArray) (w : World) (z1 : s.size ≤ 140737488351232) (z2 : t.size ≤ 140737488351232) :
    Calls Try.prog 3 #[.string s, .string t] w fun e w' => e = .returned (.bool true) ∧ Gw w w' := by
  have AW := aw w
  have hn : ∀ b w, (Op.unary .not (.bool b)).run Try.prog w = .ok (.bool (!b)) w := fun _ _ => rfl
  by_cases h1 : 300 < s.size
  · have h1' : decide ((300 : Int) < s.size) = true := decide_eq_true (by omega)
    go_enter Try.func3, Try.ntmps3
    go_wp2_with (go_at_call 7; with_reducible refine AW.mono ?_; rintro e w1 ⟨rfl, G1⟩)
    go_ret
    exact ⟨rfl, G1⟩
  have h1' : decide ((300 : Int) < s.size) = false := decide_eq_false (by omega)
  by_cases h2 : 300 < t.size
  · have h2' : decide ((300 : Int) < t.size) = true := decide_eq_true (by omega)
    go_enter Try.func3, Try.ntmps3
    go_wp2_with (go_at_call 7; with_reducible refine AW.mono ?_; rintro e w1 ⟨rfl, G1⟩)
    go_ret
    exact ⟨rfl, G1⟩
  have h2' : decide ((300 : Int) < t.size) = false := decide_eq_false (by omega)
  clear h1 h2
  have CS := fun w => hs s w z1
  have CA := fun w => rsplit_any s w z1
  have CB := fun w => rsplit_any t w z2
  have CN := fun w => rname_any s w
  have CM := fun w => hm s w z1
  have CD := fun w => hd s w z1
  have CL := fun w => hl s t w z1 z2
  rw [less_eq] at CL
  rw [deep_spl] at CD
  obtain ⟨x1, hx1⟩ : ∃ x, x = (spl s.data.toList).1 := ⟨_, rfl⟩
  rw [← hx1] at CS CA CD CL
  generalize nameB s.data.toList = nb at *
  generalize (spl s.data.toList).2 = y1 at *
  generalize (spl t.data.toList).1 = u1 at *
  generalize (spl t.data.toList).2 = v1 at *
  have hxe : (bs x1).toList = x1 := bs_list x1
  obtain ⟨dp, hdp⟩ : ∃ d : Int, d = if nb = true then (if x1 = [] then 1 else 2) else 0 := ⟨_, rfl⟩
  rw [← hdp] at CD
  have hcase : (nb = false ∧ dp = 0) ∨ (nb = true ∧ x1 = [] ∧ dp = 1) ∨ (nb = true ∧ x1 ≠ [] ∧ dp = 2) := by
    cases nb with
    | false => exact .inl ⟨rfl, by rw [hdp]; rfl⟩
    | true =>
      by_cases h : x1 = []
      · exact .inr (.inl ⟨rfl, h, by rw [hdp, if_pos rfl, if_pos h]⟩)
      · exact .inr (.inr ⟨rfl, h, by rw [hdp, if_pos rfl, if_neg h]⟩)
  clear hdp hx1
  obtain ⟨A, hA⟩ : ∃ A, Op.bytesLess (bs x1).toList (bs u1).toList = A := ⟨_, rfl⟩
  obtain ⟨B, hB⟩ : ∃ B, ((bs x1).toList == (bs u1).toList) = B := ⟨_, rfl⟩
  obtain ⟨C, hC⟩ : ∃ C, Op.bytesLess (bs y1).toList (bs v1).toList = C := ⟨_, rfl⟩
  rw [hA, hB, hC] at CL
  have hxx : (bs x1).toList = [] ↔ x1 = [] := by rw [hxe]
  have hxx2 : (bs x1).toList.isEmpty = x1.isEmpty := by rw [hxe]
  clear hxe
  generalize bs x1 = x at *
  generalize bs y1 = y at *
  generalize bs u1 = u at *
  generalize bs v1 = v at *
  rcases hcase with ⟨rfl, rfl⟩ | ⟨rfl, h, rfl⟩ | ⟨rfl, h, rfl⟩
  all_goals
    first
      | (have q1 : x.toList = [] := hxx.2 h
         have q2 : x.toList.isEmpty = true := by rw [hxx2, h]; rfl
         clear hxx hxx2 h q1)
      | (have q1 : ¬ x.toList = [] := fun e => h (hxx.1 e)
         have q2 : x.toList.isEmpty = false := by rw [hxx2]; cases x1 with | nil => exact absurd rfl h | cons => rfl
         clear hxx hxx2 h)
      | (clear hxx hxx2)
    cases A <;> cases B <;> cases C
    all_goals
      go_enter Try.func3, Try.ntmps3
      go_wp2_with (first
        | (go_at_call 7; with_reducible refine AW.mono ?_; rintro e w1 ⟨rfl, G1⟩; have GG := G1)
        | (go_at_call 8; with_reducible refine (CS _).mono ?_; rintro e w2 ⟨rfl, G2⟩; have GG := GG.trans G2)
        | (go_at_call 9; first | (with_reducible refine (CA _).mono ?_; rintro e w3 ⟨rfl, G3⟩; have GG := GG.trans G3) | (with_reducible refine (CB _).mono ?_; rintro e w4 ⟨rfl, G4⟩; have GG := GG.trans G4))
        | (go_at_call 10; with_reducible refine (CN _).mono ?_; rintro e w5 ⟨rfl, G5⟩; have GG := GG.trans G5)
        | (go_at_call 11; with_reducible refine (CM _).mono ?_; rintro e w6 ⟨rfl, G6⟩; have GG := GG.trans G6)
        | (go_at_call 12; with_reducible refine (CD _).mono ?_; rintro e w7 ⟨rfl, G7⟩; have GG := GG.trans G7)
        | (go_at_call 13; with_reducible refine (CL _).mono ?_; rintro e w8 ⟨rfl, G8⟩; have GG := GG.trans G8))
      go_ret
      exact ⟨by simp, GG⟩
end Go.Proofs.Ytppnpidkemhacaa
