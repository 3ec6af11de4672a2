/-
  The library's Cut at a stroke, and Clone.
-/
import Derived.Test.YtlnobekjcengfaaNameP
import Derived.Test.YtlnobekjcengfaaLib
import Derived.Lib.CutLaws
import Derived.Lib.IndexLaws
namespace Go.Proofs.Ytlnobekjcengfaa
open Go.ChangeShapes Go.WideShapes Go.ChangeAt Go.RowKit Go.Joins
set_option linter.unusedVariables false

/-- What cutting a text at its first stroke makes. -/
inductive CutAt (s : ByteArray) : ByteArray → ByteArray → Bool → Prop where
  | no : (∀ c ∈ s.data.toList, c.toNat ≠ 47) → CutAt s s ⟨#[]⟩ false
  | yes {a b : ByteArray} {c : UInt8} : s.data.toList = a.data.toList ++ c :: b.data.toList → (∀ d ∈ a.data.toList, d.toNat ≠ 47) → c.toNat = 47 → CutAt s a b true
theorem cut_of (s : ByteArray) : (Lib.indexByte s.data.toList 47 = -1 ∧ CutAt s s ⟨#[]⟩ false) ∨ ∃ i : Nat, Lib.indexByte s.data.toList 47 = i ∧ i < s.size ∧ CutAt s (s.extract 0 i) (s.extract (i + 1) s.size) true := by
  have hsz : s.size = s.data.toList.length := by rw [Array.length_toList]; rfl
  have hge := Lib.indexByte_ge s.data.toList 47
  by_cases h : Lib.indexByte s.data.toList 47 = -1
  · refine .inl ⟨h, .no fun c hc e => ?_⟩
    obtain ⟨k, hk⟩ := List.getElem?_of_mem hc
    have hc47 : c = 47 := UInt8.toNat_inj.1 (by rw [e]; rfl)
    exact Lib.indexByte_none h k (by rw [hk, hc47])
  · obtain ⟨i, hi⟩ : ∃ i : Nat, Lib.indexByte s.data.toList 47 = i := ⟨(Lib.indexByte s.data.toList 47).toNat, by omega⟩
    obtain ⟨h1, h2⟩ := Lib.indexByte_some hi
    have hlt : i < s.data.toList.length := (List.getElem?_eq_some_iff.1 h1).1
    refine .inr ⟨i, hi, by omega, ?_⟩
    have e1 : (s.extract 0 i).data.toList = s.data.toList.take i := by rw [Lib.extract_eq]; simp
    have e2 : (s.extract (i + 1) s.size).data.toList = s.data.toList.drop (i + 1) := by
      rw [Lib.extract_eq]
      simp only
      rw [List.take_of_length_le (by rw [List.length_drop, hsz]; exact Nat.le_refl _)]
    refine .yes (c := 47) ?_ ?_ rfl
    · rw [e1, e2]
      have h3 : s.data.toList[i] = 47 := (List.getElem?_eq_some_iff.1 h1).2
      rw [← h3, ← List.drop_eq_getElem_cons hlt, List.take_append_drop]
    · intro d hd e
      rw [e1] at hd
      obtain ⟨k, hk⟩ := List.getElem?_of_mem hd
      have hk2 : k < i := by have := (List.getElem?_eq_some_iff.1 hk).1; simp at this; omega
      rw [List.getElem?_take_of_lt hk2] at hk
      have hc47 : d = 47 := UInt8.toNat_inj.1 (by rw [e]; rfl)
      exact h2 k hk2 (by rw [hk, hc47])
abbrev CutPost (s : ByteArray) (W : World) (e : Ending) (W' : World) : Prop := ∃ a b t, e = .returned (.tuple #[.string a, .string b, .bool t]) ∧ CutAt s a b t ∧ Gw W W'
set_option maxHeartbeats 2000000 in
theorem lcut_any (s : ByteArray) (W : World) (hs : s.size ≤ 140737488351232) : Calls Try.prog 49 #[.string s, .string ⟨#[47]⟩] W (CutPost s W) := by
  have F := fun w => Try.stringslite_Index_one s 47 w
  rcases cut_of s with ⟨h, hc⟩ | ⟨i, h, hi, hc⟩
  · have HC := Lib.hid hc
    rw [h] at F
    clear hc h
    go_enter Try.func49, Try.ntmps49
    go_wp2_with (go_at_call 51; with_reducible refine (F _).mono ?_; rintro e w' ⟨rfl, rfl⟩)
    go_ret3
    exact ⟨_, _, _, rfl, HC.out, Gw.refl _⟩
  · have HC := Lib.hid hc
    rw [h] at F
    clear hc h
    have c1 : (0 : Int) ≤ ↑i := by omega
    have c2 : (↑i : Int) ≤ ↑s.size := by omega
    have c3 : (0 : Int) ≤ ↑i + 1 := by omega
    have c4 : (↑i + 1 : Int) ≤ ↑s.size := by omega
    go_enter Try.func49, Try.ntmps49
    go_wp2_with (go_at_call 51; with_reducible refine (F _).mono ?_; rintro e w' ⟨rfl, rfl⟩)
    go_region
    go_wp2
    go_ret3
    exact ⟨_, _, _, rfl, HC.out, (Gw.refl _).drew⟩
theorem cut_any (s : ByteArray) (W : World) (hs : s.size ≤ 140737488351232) : Calls Try.prog 46 #[.string s, .string ⟨#[47]⟩] W (CutPost s W) := by
  go_enter Try.func46, Try.ntmps46
  go_wp2_with (go_at_call 49; with_reducible refine (lcut_any s _ hs).mono ?_; rintro e w' ⟨a, b, t, rfl, HC, HG⟩)
  go_ret3
  exact ⟨_, _, _, rfl, HC, HG⟩
theorem cut_size {s a b : ByteArray} {t : Bool} (h : CutAt s a b t) : a.size ≤ s.size ∧ b.size ≤ s.size := by
  have sz : ∀ x : ByteArray, x.size = x.data.toList.length := fun x => by rw [Array.length_toList]; rfl
  cases h with
  | no => exact ⟨Nat.le_refl _, Nat.zero_le _⟩
  | yes h1 _ _ =>
    rw [sz a, sz b, sz s, h1]
    simp
    omega
theorem name_of {s a b : ByteArray} {t : Bool} (h : CutAt s a b t) (h8 : s.size ≤ 8) : nameB s.data.toList = (partB a.data.toList && (!t || partB b.data.toList)) := by
  have hsz : s.data.toList.length ≤ 8 := by rw [Array.length_toList]; exact h8
  cases h with
  | no h1 => rw [name_one h1, decide_eq_true hsz]; simp
  | yes h1 h2 h3 =>
    have hsz' := hsz
    rw [h1] at hsz ⊢
    rw [name_two h2 h3, decide_eq_true hsz]
    simp
theorem Below.gw {W W' : World} (h : Below W.heap.size W W') : Gw W W' := ⟨h.os, rfl, h.output, h.size, h.block⟩
theorem clone_any (s : ByteArray) (W : World) (hs : s.size ≤ 140737488351232) : Calls Try.prog 45 #[.string s] W fun e W' => e = .returned (.string s) ∧ Gw W W' := by
  have F := fun w => Try.stringslite_Clone s w (Nat.le_trans hs (by omega))
  go_enter Try.func45, Try.ntmps45
  go_wp2_with (go_at_call 48; with_reducible refine (F _).mono ?_; rintro e w' ⟨rfl, G1⟩)
  go_ret
  exact ⟨rfl, Below.gw G1⟩
end Go.Proofs.Ytlnobekjcengfaa
