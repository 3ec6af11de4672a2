/-
  Stage 12's laws over what May, Split, Deep, Less are to answer: NamesOrder, NamesJoin.
-/
import Derived.Test.YtppnpidkemhacaaNameC
namespace Go.Proofs.Ytppnpidkemhacaa
open Go.ChangeShapes Go.WideShapes Go.ChangeAt Go.RowKit Go.Joins
set_option linter.unusedVariables false

set_option maxRecDepth 100000 in
set_option maxHeartbeats 8000000 in
theorem norder_walk (hm : MayC) (hs : SplitC) (hd : DeepC) (hl : LessC) (aw : AwN) (a b c : ByteArray) (w : World) (z1 : a.size ≤ 140737488351232) (z2 : b.size ≤ 140737488351232) (z3 : c.size ≤ 140737488351232) :
    Calls Try.prog 5 #[.string a, .string b, .string c] w fun e w' => e = .returned (.bool true) ∧ Gw w w' := by
  have AW := aw w
  have hn : ∀ b w, (Op.unary .not (.bool b)).run Try.prog w = .ok (.bool (!b)) w := fun _ _ => rfl
  have NA := fun w => rname_any a w
  have NB := fun w => rname_any b w
  have NC := fun w => rname_any c w
  by_cases hall : nameB a.data.toList = true ∧ nameB b.data.toList = true ∧ nameB c.data.toList = true
  case neg =>
    have h3 : nameB a.data.toList = false ∨ (nameB a.data.toList = true ∧ nameB b.data.toList = false) ∨ (nameB a.data.toList = true ∧ nameB b.data.toList = true ∧ nameB c.data.toList = false) := by
      cases h1 : nameB a.data.toList <;> cases h2 : nameB b.data.toList <;> cases h3 : nameB c.data.toList <;> simp_all
    clear hall
    rcases h3 with h1 | ⟨h1, h2⟩ | ⟨h1, h2, h3⟩
    · rw [h1] at NA
      clear h1
      go_enter Try.func5, Try.ntmps5
      go_wp2_with (first
        | (go_at_call 7; with_reducible refine AW.mono ?_; rintro e w1 ⟨rfl, G1⟩; have GG := G1)
        | (go_at_call 10; with_reducible refine (NA _).mono ?_; rintro e w5 ⟨rfl, G5⟩; have GG := GG.trans G5))
      go_ret
      exact ⟨rfl, GG⟩
    · rw [h1] at NA
      rw [h2] at NB
      clear h1 h2
      go_enter Try.func5, Try.ntmps5
      go_wp2_with (first
        | (go_at_call 7; with_reducible refine AW.mono ?_; rintro e w1 ⟨rfl, G1⟩; have GG := G1)
        | (go_at_call 10; first | (with_reducible refine (NA _).mono ?_; rintro e w5 ⟨rfl, G5⟩; have GG := GG.trans G5) | (with_reducible refine (NB _).mono ?_; rintro e w6 ⟨rfl, G6⟩; have GG := GG.trans G6)))
      go_ret
      exact ⟨rfl, GG⟩
    · rw [h1] at NA
      rw [h2] at NB
      rw [h3] at NC
      clear h1 h2 h3
      go_enter Try.func5, Try.ntmps5
      go_wp2_with (first
        | (go_at_call 7; with_reducible refine AW.mono ?_; rintro e w1 ⟨rfl, G1⟩; have GG := G1)
        | (go_at_call 10; first | (with_reducible refine (NA _).mono ?_; rintro e w5 ⟨rfl, G5⟩; have GG := GG.trans G5) | (with_reducible refine (NB _).mono ?_; rintro e w6 ⟨rfl, G6⟩; have GG := GG.trans G6) | (with_reducible refine (NC _).mono ?_; rintro e w7 ⟨rfl, G7⟩; have GG := GG.trans G7)))
      go_ret
      exact ⟨rfl, GG⟩
  obtain ⟨h1, h2, h3⟩ := hall
  have CS := fun w => hs a w z1
  have AB := fun w => hl a b w z1 z2
  have BA := fun w => hl b a w z2 z1
  have BC := fun w => hl b c w z2 z3
  have AC := fun w => hl a c w z1 z3
  rw [h1] at NA
  rw [h2] at NB
  rw [h3] at NC
  have hone := less_one h1 h2
  have hnot := less_not (a := a.data.toList) (b := b.data.toList)
  have htr := fun h k => less_trans (a := a.data.toList) (b := b.data.toList) (c := c.data.toList) h k
  have hback := back_of h1
  have hsz8 := (name_size h1).1
  have hsd : (spl a.data.toList).1.length ≤ 8 ∧ (spl a.data.toList).2.length ≤ 8 := by
    have h8 := str_size a
    rcases name_cases h1 with ⟨_, k1, k2, _⟩ | ⟨p, q, d, k0, _, _, _, k1, k2, _⟩
    · rw [k2]; exact ⟨by simp, k1⟩
    · rw [k2]; rw [k0] at k1; simp at k1; exact ⟨by show p.length ≤ 8; omega, by show q.length ≤ 8; omega⟩
  obtain ⟨E, hE⟩ : ∃ E, (a.toList == b.toList) = E := ⟨_, rfl⟩
  have hEq : E = (!lessN a.data.toList b.data.toList && !lessN b.data.toList a.data.toList) := by
    rw [← hE, str_list, str_list, Bool.eq_iff_iff, beq_iff_eq, hone]
    simp
  generalize lessN a.data.toList b.data.toList = r1 at *
  generalize lessN b.data.toList a.data.toList = r2 at *
  generalize lessN b.data.toList c.data.toList = r3 at *
  generalize lessN a.data.toList c.data.toList = r4 at *
  have hsx : (bs (spl a.data.toList).1).size = (spl a.data.toList).1.length := bs_size _
  have hsy : (bs (spl a.data.toList).2).size = (spl a.data.toList).2.length := bs_size _
  have hx2 : (bs (spl a.data.toList).1).toList.isEmpty = (spl a.data.toList).1.isEmpty := by rw [bs_list]
  by_cases hx : (spl a.data.toList).1 = []
  · rw [if_pos hx] at hback
    have hy : bs (spl a.data.toList).2 = a := by rw [hback, bs_self]
    have q2 : (bs (spl a.data.toList).1).toList.isEmpty = true := by rw [hx2, hx]; rfl
    rw [hy] at CS
    clear hback hy hx hx2 hsx hsy hsd hone h1 h2 h3
    generalize bs (spl a.data.toList).1 = x at *
    cases r1 <;> cases r2 <;> cases r3 <;> cases r4
    all_goals
      first
        | (exfalso; simp at hnot; done)
        | (exfalso; simp at htr; done)
        | (simp only [Bool.not_true, Bool.not_false, Bool.and_true, Bool.and_false, Bool.and_self] at hEq
           subst hEq
           clear hnot htr
           go_enter Try.func5, Try.ntmps5
           go_wp2_with (first
             | (go_at_call 7; with_reducible refine AW.mono ?_; rintro e w1 ⟨rfl, G1⟩; have GG := G1)
             | (go_at_call 10; first | (with_reducible refine (NA _).mono ?_; rintro e w5 ⟨rfl, G5⟩; have GG := GG.trans G5) | (with_reducible refine (NB _).mono ?_; rintro e w6 ⟨rfl, G6⟩; have GG := GG.trans G6) | (with_reducible refine (NC _).mono ?_; rintro e w7 ⟨rfl, G7⟩; have GG := GG.trans G7))
             | (go_at_call 8; with_reducible refine (CS _).mono ?_; rintro e w2 ⟨rfl, G2⟩; have GG := GG.trans G2)
             | (go_at_call 13; first | (with_reducible refine (AB _).mono ?_; rintro e w8 ⟨rfl, G8⟩; have GG := GG.trans G8) | (with_reducible refine (BA _).mono ?_; rintro e w8 ⟨rfl, G8⟩; have GG := GG.trans G8) | (with_reducible refine (BC _).mono ?_; rintro e w8 ⟨rfl, G8⟩; have GG := GG.trans G8) | (with_reducible refine (AC _).mono ?_; rintro e w8 ⟨rfl, G8⟩; have GG := GG.trans G8)))
           go_ret
           exact ⟨by simp, GG⟩)
  · rw [if_neg hx] at hback
    have hj : ((bs (spl a.data.toList).1 ++ ⟨#[47]⟩ ++ bs (spl a.data.toList).2).toList == a.toList) = true := by
      rw [beq_iff_eq, show (⟨#[47]⟩ : ByteArray) = bs [47] from rfl, bs_app, bs_app, hback, bs_self]
    have q2 : (bs (spl a.data.toList).1).toList.isEmpty = false := by rw [hx2]; cases h : (spl a.data.toList).1 with | nil => exact absurd h hx | cons => rfl
    have nz1 : ¬ 9223372036854775807 < (bs (spl a.data.toList).1).size + 1 := by omega
    have nz2 : ¬ 9223372036854775807 < (bs (spl a.data.toList).1).size + 1 + (bs (spl a.data.toList).2).size := by omega
    clear hback hx hx2 hsx hsy hsd hone h1 h2 h3
    generalize bs (spl a.data.toList).1 = x at *
    generalize bs (spl a.data.toList).2 = y at *
    cases r1 <;> cases r2 <;> cases r3 <;> cases r4
    all_goals
      first
        | (exfalso; simp at hnot; done)
        | (exfalso; simp at htr; done)
        | (simp only [Bool.not_true, Bool.not_false, Bool.and_true, Bool.and_false, Bool.and_self] at hEq
           subst hEq
           clear hnot htr
           go_enter Try.func5, Try.ntmps5
           go_wp2_with (first
             | (go_at_call 7; with_reducible refine AW.mono ?_; rintro e w1 ⟨rfl, G1⟩; have GG := G1)
             | (go_at_call 10; first | (with_reducible refine (NA _).mono ?_; rintro e w5 ⟨rfl, G5⟩; have GG := GG.trans G5) | (with_reducible refine (NB _).mono ?_; rintro e w6 ⟨rfl, G6⟩; have GG := GG.trans G6) | (with_reducible refine (NC _).mono ?_; rintro e w7 ⟨rfl, G7⟩; have GG := GG.trans G7))
             | (go_at_call 8; with_reducible refine (CS _).mono ?_; rintro e w2 ⟨rfl, G2⟩; have GG := GG.trans G2)
             | (go_at_call 13; first | (with_reducible refine (AB _).mono ?_; rintro e w8 ⟨rfl, G8⟩; have GG := GG.trans G8) | (with_reducible refine (BA _).mono ?_; rintro e w8 ⟨rfl, G8⟩; have GG := GG.trans G8) | (with_reducible refine (BC _).mono ?_; rintro e w8 ⟨rfl, G8⟩; have GG := GG.trans G8) | (with_reducible refine (AC _).mono ?_; rintro e w8 ⟨rfl, G8⟩; have GG := GG.trans G8)))
           go_ret
           exact ⟨by simp, GG⟩)
end Go.Proofs.Ytppnpidkemhacaa
