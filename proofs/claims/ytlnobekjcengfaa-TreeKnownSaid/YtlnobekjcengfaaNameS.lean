/-
  Texts by their bytes; the document's own Split.
-/
import Derived.Test.YtlnobekjcengfaaNameM
import Derived.Test.YtlnobekjcengfaaNameB
namespace Go.Proofs.Ytlnobekjcengfaa
open Go.ChangeShapes Go.WideShapes Go.ChangeAt Go.RowKit Go.Joins
set_option linter.unusedVariables false

/-- A text of these bytes. -/
def bs (l : List UInt8) : ByteArray := ⟨l.toArray⟩
theorem bs_list (l : List UInt8) : (bs l).toList = l := ByteArray.toList_mk l
theorem bs_data (l : List UInt8) : (bs l).data.toList = l := rfl
theorem bs_self (s : ByteArray) : bs s.data.toList = s := by unfold bs; simp
theorem bs_size (l : List UInt8) : (bs l).size = l.length := by show l.toArray.size = l.length; simp
theorem str_list (s : ByteArray) : s.toList = s.data.toList := (Lib.toList_data s)
theorem str_size (s : ByteArray) : s.size = s.data.toList.length := by rw [Array.length_toList]; rfl
theorem bs_inj {a b : List UInt8} (h : bs a = bs b) : a = b := by have := congrArg (·.data.toList) h; simpa [bs_data] using this
theorem bs_app (a b : List UInt8) : bs a ++ bs b = bs (a ++ b) := by apply bytes_inj; rw [data_append]; rfl
theorem name_size {s : ByteArray} (h : nameB s.data.toList = true) : s.size ≤ 8 ∧ 1 ≤ s.size := by
  have h1 := str_size s
  rcases name_cases h with ⟨h2, h3, _⟩ | ⟨a, b, c, h2, _, _, _, h3, _⟩
  · have := part_ne h2
    have h4 : 0 < s.data.toList.length := List.length_pos_iff.2 this
    omega
  · have h4 : 0 < s.data.toList.length := by rw [h2]; simp; omega
    omega
theorem ext_take {s : ByteArray} {k : Nat} : s.extract 0 k = bs (s.data.toList.take k) := by
  rw [Lib.extract_eq]
  simp [bs]
theorem ext_drop {s : ByteArray} {k : Nat} : s.extract k s.size = bs (s.data.toList.drop k) := by
  rw [Lib.extract_eq, List.take_of_length_le (by rw [List.length_drop, str_size]; exact Nat.le_refl _)]
  rfl
/-- A stroke at k, none ahead of it. -/
theorem spl_at {l : List UInt8} {k : Nat} {c : UInt8} (h : nameB l = true) (hc : l[k]? = some c) (h47 : c.toNat = 47) (hb : ∀ d ∈ l.take k, d.toNat ≠ 47) : spl l = (l.take k, l.drop (k + 1)) := by
  have hk := (List.getElem?_eq_some_iff.1 hc).1
  have he := (List.getElem?_eq_some_iff.1 hc).2
  have e : l = l.take k ++ c :: l.drop (k + 1) := by rw [← he, ← List.drop_eq_getElem_cons hk, List.take_append_drop]
  have h2 := h
  rw [e] at h2
  have := spl_two h2 hb h47
  rw [← e] at this
  exact this
set_option maxHeartbeats 4000000 in
theorem rsplit_any (s : ByteArray) (W : World) (hs : s.size ≤ 140737488351232) : Calls Try.prog 23 #[.string s] W fun e W' => e = .returned (.tuple #[.string (bs (spl s.data.toList).1), .string (bs (spl s.data.toList).2)]) ∧ Gw W W' := by
  have F := fun w => rname_any s w
  have hn : ∀ b w, (Op.unary .not (.bool b)).run Try.prog w = .ok (.bool (!b)) w := fun _ _ => rfl
  cases hb : nameB s.data.toList with
  | false =>
    rw [hb] at F
    rw [spl_no hb]
    clear hb
    go_enter Try.func23, Try.ntmps23
    go_wp2_with (go_at_call 21; with_reducible refine (F _).mono ?_; rintro e w' ⟨rfl, G1⟩)
    go_ret2
    exact ⟨rfl, G1⟩
  | true =>
    rw [hb] at F
    obtain ⟨l, hl⟩ : ∃ l, l = s.data.toList := ⟨_, rfl⟩
    have hsz : s.size = l.length := by rw [hl]; exact str_size s
    rw [← hl] at hb ⊢
    have HNB := Lib.hid hb
    have HL := Lib.hid hl
    have HSZ := Lib.hid hsz
    have h8 : l.length ≤ 8 := by have := (name_size (s := s) (by rw [← hl]; exact hb)).1; omega
    obtain ⟨p, hp⟩ : ∃ p, p = spl l := ⟨_, rfl⟩
    rw [← hp]
    have HP := Lib.hid hp
    clear hb hl hsz hp
    go_enter Try.func23, Try.ntmps23
    go_upto_region 4 with (go_at_call 21; with_reducible refine (F _).mono ?_; rintro e w' ⟨rfl, G1⟩)
    go_loopw [4] (fun i wr => ∃ k : Nat, k ≤ l.length ∧ i = .int .i64 k ∧ Hid (∀ d ∈ l.take k, d.toNat ≠ 47) ∧ Hid (Gw W wr)) (fun i _ => l.length - (intOf i).toNat)
    case atStart => exact ⟨0, by omega, rfl, fun d hd => by simp at hd, G1⟩
    case round =>
      obtain ⟨k, hk, rfl, HA, G⟩ := hrel
      by_cases hlt : k < l.length
      · obtain ⟨c, hc⟩ : ∃ c, l[k]? = some c := ⟨_, List.getElem?_eq_getElem hlt⟩
        have hlt' : k < s.size := by rw [HSZ.out]; exact hlt
        have hck := byte_at HL.out hc hlt'
        by_cases h47 : c.toNat = 47
        · have HX := Lib.hid (spl_at HNB.out hc h47 HA.out)
          have e47 : ((c.toNat : Nat) : Int) = 47 := by omega
          have c1 : (0 : Int) ≤ ↑k := by omega
          have c2 : (↑k : Int) ≤ ↑s.size := by omega
          have c3 : (0 : Int) ≤ ↑k + 1 := by omega
          have c4 : (↑k + 1 : Int) ≤ ↑s.size := by omega
          clear hc HA h47
          go_upto_region 7 with fail
          go_region
          go_wp2
          go_ret2
          refine ⟨?_, G.out.drew⟩
          rw [HP.out, HX.out, HL.out, ← ext_take, ← ext_drop]
          rfl
        · have HA2 : Hid (∀ d ∈ l.take (k + 1), d.toNat ≠ 47) := fun d hd => by
            obtain ⟨hi, he⟩ := List.getElem?_eq_some_iff.1 hc
            rw [List.take_succ_eq_append_getElem hi, he] at hd
            rcases List.mem_append.1 hd with hd | hd
            · exact HA.out d hd
            · simp at hd; subst hd; exact h47
          have e47 : (((c.toNat : Nat) : Int) == 47) = false := by simp; omega
          have e47' : ¬ ((c.toNat : Nat) : Int) = 47 := by omega
          clear hc HA h47
          go_wp2
          go_roundw
          case rel => exact ⟨k + 1, by omega, by go_num, HA2.out, G.out⟩
          case measure => simp [intOf]; omega
      · obtain rfl : k = l.length := by omega
        have HX : Hid (spl l = ([], l)) := spl_one HNB.out (by have := HA.out; rw [List.take_length] at this; exact this)
        have hlt' : ¬ l.length < s.size := by rw [HSZ.out]; omega
        clear HA
        go_wp2
        go_ret2
        refine ⟨?_, G.out⟩
        rw [HP.out, HX.out, HL.out, bs_self]
        rfl
end Go.Proofs.Ytlnobekjcengfaa
