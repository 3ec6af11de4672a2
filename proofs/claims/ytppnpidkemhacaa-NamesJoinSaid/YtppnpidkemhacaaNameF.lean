/-
  Stage 12's laws over what May, Split, Deep, Less are to answer: NamesJoin.
-/
import Derived.Test.YtppnpidkemhacaaNameC
namespace Go.Proofs.Ytppnpidkemhacaa
open Go.ChangeShapes Go.WideShapes Go.ChangeAt Go.RowKit Go.Joins
set_option linter.unusedVariables false

theorem part_len {l : List UInt8} (h : deepB l = 1) : l.length ≤ 8 := by
  have hn : nameB l = true := by
    unfold deepB at h
    split at h
    · assumption
    · cases h
  rcases name_cases hn with ⟨_, h1, _⟩ | ⟨_, _, _, _, _, _, _, h1, _⟩ <;> exact h1
set_option maxRecDepth 100000 in
set_option maxHeartbeats 8000000 in
theorem njoin_walk (hm : MayC) (hs : SplitC) (hd : DeepC) (hl : LessC) (aw : AwN) (a b c : ByteArray) (w : World) (z1 : a.size ≤ 140737488351232) (z2 : b.size ≤ 140737488351232) (z3 : c.size ≤ 140737488351232) :
    Calls Try.prog 6 #[.string a, .string b, .string c] w fun e w' => e = .returned (.bool true) ∧ Gw w w' := by
  have AW := aw w
  have hn : ∀ b w, (Op.unary .not (.bool b)).run Try.prog w = .ok (.bool (!b)) w := fun _ _ => rfl
  have DA := fun w => hd a w z1
  have DB := fun w => hd b w z2
  have DC := fun w => hd c w z3
  by_cases hall : deepB a.data.toList = 1 ∧ deepB b.data.toList = 1 ∧ deepB c.data.toList = 1
  case neg =>
    by_cases h1 : deepB a.data.toList = 1
    · by_cases h2 : deepB b.data.toList = 1
      · have h3 : deepB c.data.toList ≠ 1 := fun h => hall ⟨h1, h2, h⟩
        rw [h1] at DA
        rw [h2] at DB
        have k1 : (deepB c.data.toList != 1) = true := by simp [h3]
        have k2 : (deepB c.data.toList == 1) = false := by simp [h3]
        generalize deepB c.data.toList = dc at *
        clear hall h1 h2 h3
        go_enter Try.func6, Try.ntmps6
        go_wp2_with (first
          | (go_at_call 7; with_reducible refine AW.mono ?_; rintro e w1 ⟨rfl, G1⟩; have GG := G1)
          | (go_at_call 12; first | (with_reducible refine (DA _).mono ?_; rintro e w5 ⟨rfl, G5⟩; have GG := GG.trans G5) | (with_reducible refine (DB _).mono ?_; rintro e w6 ⟨rfl, G6⟩; have GG := GG.trans G6) | (with_reducible refine (DC _).mono ?_; rintro e w7 ⟨rfl, G7⟩; have GG := GG.trans G7)))
        go_ret
        exact ⟨rfl, GG⟩
      · rw [h1] at DA
        have k1 : (deepB b.data.toList != 1) = true := by simp [h2]
        have k2 : (deepB b.data.toList == 1) = false := by simp [h2]
        generalize deepB b.data.toList = db at *
        clear hall h1 h2
        go_enter Try.func6, Try.ntmps6
        go_wp2_with (first
          | (go_at_call 7; with_reducible refine AW.mono ?_; rintro e w1 ⟨rfl, G1⟩; have GG := G1)
          | (go_at_call 12; first | (with_reducible refine (DA _).mono ?_; rintro e w5 ⟨rfl, G5⟩; have GG := GG.trans G5) | (with_reducible refine (DB _).mono ?_; rintro e w6 ⟨rfl, G6⟩; have GG := GG.trans G6)))
        go_ret
        exact ⟨rfl, GG⟩
    · have k1 : (deepB a.data.toList != 1) = true := by simp [h1]
      have k2 : (deepB a.data.toList == 1) = false := by simp [h1]
      generalize deepB a.data.toList = da at *
      clear hall h1
      go_enter Try.func6, Try.ntmps6
      go_wp2_with (first
        | (go_at_call 7; with_reducible refine AW.mono ?_; rintro e w1 ⟨rfl, G1⟩; have GG := G1)
        | (go_at_call 12; with_reducible refine (DA _).mono ?_; rintro e w5 ⟨rfl, G5⟩; have GG := GG.trans G5))
      go_ret
      exact ⟨rfl, GG⟩
  obtain ⟨h1, h2, h3⟩ := hall
  rw [h1] at DA
  rw [h2] at DB
  rw [h3] at DC
  have pa := deep_one h1
  have pb := deep_one h2
  have la : a.size ≤ 8 := by rw [str_size]; exact part_len h1
  have lb : b.size ≤ 8 := by rw [str_size]; exact part_len h2
  have lc : c.size ≤ 8 := by rw [str_size]; exact part_len h3
  obtain ⟨S, hS⟩ : ∃ S : ByteArray, S = a ++ ⟨#[47]⟩ ++ b := ⟨_, rfl⟩
  have e47 : (⟨#[47]⟩ : ByteArray).size = 1 := rfl
  have sS : S.size = a.size + 1 + b.size := by rw [hS, ByteArray.size_append, ByteArray.size_append, e47]
  have dS : S.data.toList = a.data.toList ++ [47] ++ b.data.toList := by rw [hS, data_append, data_append]
  have lS : (S.size ≤ 8) ↔ (a.data.toList ++ [47] ++ b.data.toList).length ≤ 8 := by rw [str_size, dS]
  have j1 := join_may pa pb
  have MS := fun w => hm S w (by omega)
  have SS := fun w => hs S w (by omega)
  have DS := fun w => hd S w (by omega)
  have M3 := fun w => hm (S ++ ⟨#[47]⟩ ++ c) w (by rw [ByteArray.size_append, ByteArray.size_append, e47]; omega)
  have M4 := fun w => hm (S ++ ⟨#[47]⟩) w (by rw [ByteArray.size_append, e47]; omega)
  have M5 := fun w => hm (⟨#[47]⟩ ++ a) w (by rw [ByteArray.size_append, e47]; omega)
  have d3 : (S ++ ⟨#[47]⟩ ++ c).data.toList = a.data.toList ++ [47] ++ b.data.toList ++ [47] ++ c.data.toList := by rw [data_append, data_append, dS]
  have d4 : (S ++ ⟨#[47]⟩).data.toList = S.data.toList ++ [47] := by rw [data_append]
  have d5 : ((⟨#[47]⟩ : ByteArray) ++ a).data.toList = [47] ++ a.data.toList := by rw [data_append]
  rw [d3, two_strokes (part_flat pa)] at M3
  rw [d4, end_stroke] at M4
  rw [d5, head_stroke] at M5
  rw [dS, j1] at MS
  rw [dS] at SS DS
  have nz1 : ¬ 9223372036854775807 < a.size + 1 := by omega
  have nz2 : ¬ 9223372036854775807 < a.size + 1 + b.size := by omega
  have nz3 : ¬ 9223372036854775807 < S.size + 1 := by omega
  have nz4 : ¬ 9223372036854775807 < S.size + 1 + c.size := by omega
  have nz5 : ¬ 9223372036854775807 < 1 + a.size := by omega
  have hSr := hS.symm
  by_cases h8 : S.size ≤ 8
  · have h8' : decide ((S.size : Int) ≤ 8) = true := decide_eq_true (by omega)
    obtain ⟨q1, q2⟩ := join_spl pa pb (lS.1 h8)
    rw [q1] at SS
    rw [q2] at DS
    rw [decide_eq_true (lS.1 h8)] at MS
    simp only [bs_self] at SS
    clear q1 q2 j1 d3 d4 d5 dS lS h1 h2 h3 pa pb hS sS h8 hs hm hd hl z1 z2 z3 la lb lc
    go_enter Try.func6, Try.ntmps6
    go_wp2_with (first
      | (go_at_call 7; with_reducible refine AW.mono ?_; rintro e w1 ⟨rfl, G1⟩; have GG := G1)
      | (go_at_call 12; first | (with_reducible refine (DA _).mono ?_; rintro e w5 ⟨rfl, G5⟩; have GG := GG.trans G5) | (with_reducible refine (DB _).mono ?_; rintro e w6 ⟨rfl, G6⟩; have GG := GG.trans G6) | (with_reducible refine (DC _).mono ?_; rintro e w7 ⟨rfl, G7⟩; have GG := GG.trans G7) | (with_reducible refine (DS _).mono ?_; rintro e w8 ⟨rfl, G8⟩; have GG := GG.trans G8))
      | (go_at_call 8; with_reducible refine (SS _).mono ?_; rintro e w2 ⟨rfl, G2⟩; have GG := GG.trans G2)
      | (go_at_call 11; first | (with_reducible refine (MS _).mono ?_; rintro e w9 ⟨rfl, G9⟩; have GG := GG.trans G9) | (with_reducible refine (M3 _).mono ?_; rintro e w9 ⟨rfl, G9⟩; have GG := GG.trans G9) | (with_reducible refine (M4 _).mono ?_; rintro e w9 ⟨rfl, G9⟩; have GG := GG.trans G9) | (with_reducible refine (M5 _).mono ?_; rintro e w9 ⟨rfl, G9⟩; have GG := GG.trans G9)))
    go_ret
    exact ⟨by simp, GG⟩
  · have h8' : decide ((S.size : Int) ≤ 8) = false := decide_eq_false (by omega)
    rw [decide_eq_false (fun k => h8 (lS.2 k))] at MS
    generalize bs (spl (a.data.toList ++ [47] ++ b.data.toList)).1 = x at *
    generalize bs (spl (a.data.toList ++ [47] ++ b.data.toList)).2 = y at *
    clear j1 d3 d4 d5 dS lS h1 h2 h3 pa pb hS sS h8 hs hm hd hl z1 z2 z3 la lb lc DS
    go_enter Try.func6, Try.ntmps6
    go_wp2_with (first
      | (go_at_call 7; with_reducible refine AW.mono ?_; rintro e w1 ⟨rfl, G1⟩; have GG := G1)
      | (go_at_call 12; first | (with_reducible refine (DA _).mono ?_; rintro e w5 ⟨rfl, G5⟩; have GG := GG.trans G5) | (with_reducible refine (DB _).mono ?_; rintro e w6 ⟨rfl, G6⟩; have GG := GG.trans G6) | (with_reducible refine (DC _).mono ?_; rintro e w7 ⟨rfl, G7⟩; have GG := GG.trans G7))
      | (go_at_call 8; with_reducible refine (SS _).mono ?_; rintro e w2 ⟨rfl, G2⟩; have GG := GG.trans G2)
      | (go_at_call 11; first | (with_reducible refine (MS _).mono ?_; rintro e w9 ⟨rfl, G9⟩; have GG := GG.trans G9) | (with_reducible refine (M3 _).mono ?_; rintro e w9 ⟨rfl, G9⟩; have GG := GG.trans G9) | (with_reducible refine (M4 _).mono ?_; rintro e w9 ⟨rfl, G9⟩; have GG := GG.trans G9) | (with_reducible refine (M5 _).mono ?_; rintro e w9 ⟨rfl, G9⟩; have GG := GG.trans G9)))
    go_ret
    exact ⟨by simp, GG⟩
end Go.Proofs.Ytppnpidkemhacaa
