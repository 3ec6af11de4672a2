/-
  isPart, the library's Cut at a stroke, isName of package check.
-/
import Derived.Test.YthjbjbbbbdhcmaaCheckG
namespace Go.Proofs.Ythjbjbbbbdhcmaa
open Go.ChangeShapes Go.WideShapes Go.ChangeAt Go.RowKit Go.Joins
set_option linter.unusedVariables false

set_option maxHeartbeats 2000000 in
theorem part_any (s : ByteArray) (W : World) (hs : s.size ≤ 140737488351232) : Calls Try.prog 39 #[.string s] W fun e W' => e = .returned (.bool (partB s.data.toList)) ∧ W' = W := by
  obtain ⟨l, hl⟩ : ∃ l, l = s.data.toList := ⟨_, rfl⟩
  have hsz : s.size = l.length := by rw [hl, Array.length_toList]; rfl
  have hsl : s.toList = l := by rw [hl]; exact (Lib.toList_data s)
  rw [← hl]
  have HL := Lib.hid hl
  have HSZ := Lib.hid hsz
  have HSL := Lib.hid hsl
  have HB := Lib.hid hs
  clear hl hsz hsl hs
  have hn : ∀ b w, (Op.unary .not (.bool b)).run Try.prog w = .ok (.bool (!b)) w := fun _ _ => rfl
  go_enter Try.func39, Try.ntmps39
  go_wp2_with fail
  go_loopw [6] (fun i wr => ∃ k : Nat, k ≤ l.length ∧ i = .int .i64 k ∧ Hid ((l.take k).all chOk = true) ∧ wr = W) (fun i _ => l.length - (intOf i).toNat)
  case atStart => exact ⟨0, by omega, rfl, by simp [Hid], rfl⟩
  case round =>
    obtain ⟨k, hk, rfl, HA, rfl⟩ := hrel
    by_cases hlt : k < l.length
    · obtain ⟨c, hc⟩ : ∃ c, l[k]? = some c := ⟨_, List.getElem?_eq_getElem hlt⟩
      have hlt' : k < s.size := by rw [HSZ.out]; exact hlt
      have hck := byte_at HL.out hc hlt'
      have F := letter_any c
      cases hb : chOk c with
      | true =>
        have HA2 := Lib.hid (show (l.take (k + 1)).all chOk = true by rw [all_take hc, HA.out, hb]; rfl)
        rw [hb] at F
        have h62 : (k : Int) + 1 ≤ 9223372036854775807 := by have := HB.out; omega
        clear hc HA hb
        go_wp2_with (go_at_call 44; with_reducible refine (F _).mono ?_; rintro e w' ⟨rfl, rfl⟩)
        go_roundw
        case rel => exact ⟨k + 1, by omega, by go_num, HA2.out, trivial⟩
        case measure => simp [intOf]; omega
      | false =>
        have HX := Lib.hid (show partB l = false by
          have : l.all chOk = false := List.all_eq_false.2 ⟨c, List.mem_of_getElem? hc, by rw [hb]; decide⟩
          unfold partB
          rw [this]
          rfl)
        rw [hb] at F
        clear hc HA hb
        go_wp2_with (go_at_call 44; with_reducible refine (F _).mono ?_; rintro e w' ⟨rfl, rfl⟩)
        go_ret
        exact ⟨by rw [HX.out]; rfl, rfl⟩
    · obtain rfl : k = l.length := by omega
      have hall : l.all chOk = true := by have := HA.out; rw [List.take_length] at this; exact this
      have HX := Lib.hid (show partB l = partOk l by unfold partB; rw [hall]; rfl)
      have hlt' : ¬ l.length < s.size := by rw [HSZ.out]; omega
      clear HA hlt hk hall
      by_cases e1 : l = []
      · have n1' : s.toList.isEmpty = true := by rw [HSL.out, e1]; rfl
        have n1 : s.toList = [] := by rw [HSL.out, e1]
        have HY := Lib.hid (show partB l = false by rw [HX.out, e1]; rfl)
        clear e1 HX
        go_wp2
        go_ret
        exact ⟨by rw [HY.out]; rfl, rfl⟩
      have n1 : ¬ s.toList = [] := by rw [HSL.out]; exact e1
      have n1' : s.toList.isEmpty = false := by rw [HSL.out]; cases l with | nil => exact absurd rfl e1 | cons => rfl
      by_cases e2 : l = [46]
      · have n2 : s.toList = [46] := by rw [HSL.out, e2]
        have n2' : (s.toList == [46]) = true := by rw [HSL.out, e2]; rfl
        have HY := Lib.hid (show partB l = false by rw [HX.out, e2]; rfl)
        clear e1 e2 HX
        go_wp2
        go_ret
        exact ⟨by rw [HY.out]; rfl, rfl⟩
      have n2 : ¬ s.toList = [46] := by rw [HSL.out]; exact e2
      have n2' : (s.toList == [46]) = false := by rw [HSL.out]; exact beq_false_of_ne e2
      by_cases e3 : l = [46, 46]
      · have n3 : s.toList = [46, 46] := by rw [HSL.out, e3]
        have n3' : (s.toList == [46, 46]) = true := by rw [HSL.out, e3]; rfl
        have HY := Lib.hid (show partB l = false by rw [HX.out, e3]; rfl)
        clear e1 e2 e3 HX
        go_wp2
        go_ret
        exact ⟨by rw [HY.out]; rfl, rfl⟩
      have n3 : ¬ s.toList = [46, 46] := by rw [HSL.out]; exact e3
      have n3' : (s.toList == [46, 46]) = false := by rw [HSL.out]; exact beq_false_of_ne e3
      have HY := Lib.hid (show partB l = true by rw [HX.out]; simp [partOk, e1, e2, e3])
      clear e1 e2 e3 HX
      go_wp2
      go_ret
      exact ⟨by rw [HY.out]; rfl, rfl⟩
/-- What cutting a text at its first stroke makes. -/
inductive CutAt (s : ByteArray) : ByteArray → ByteArray → Bool → Prop where
  | no : (∀ c ∈ s.data.toList, c.toNat ≠ 47) → CutAt s s ⟨#[]⟩ false
  | yes {a b : ByteArray} {c : UInt8} : s.data.toList = a.data.toList ++ c :: b.data.toList → (∀ d ∈ a.data.toList, d.toNat ≠ 47) → c.toNat = 47 → CutAt s a b true
theorem cut_of (s : ByteArray) : (Lib.indexByte s.data.toList 47 = -1 ∧ CutAt s s ⟨#[]⟩ false) ∨ ∃ i : Nat, Lib.indexByte s.data.toList 47 = i ∧ i < s.size ∧ CutAt s (s.extract 0 i) (s.extract (i + 1) s.size) true := by
  have hsz : s.size = s.data.toList.length := by rw [Array.length_toList]; rfl
  have hge := Lib.indexByte_ge s.data.toList 47
  by_cases h : Lib.indexByte s.data.toList 47 = -1
  · refine .inl ⟨h, .no fun c hc e => ?_⟩
    obtain ⟨k, hk⟩ := List.getElem?_of_mem hc
    have hc47 : c = 47 := UInt8.toNat_inj.1 (by rw [e]; rfl)
    exact Lib.indexByte_none h k (by rw [hk, hc47])
  · obtain ⟨i, hi⟩ : ∃ i : Nat, Lib.indexByte s.data.toList 47 = i := ⟨(Lib.indexByte s.data.toList 47).toNat, by omega⟩
    obtain ⟨h1, h2⟩ := Lib.indexByte_some hi
    have hlt : i < s.data.toList.length := (List.getElem?_eq_some_iff.1 h1).1
    refine .inr ⟨i, hi, by omega, ?_⟩
    have e1 : (s.extract 0 i).data.toList = s.data.toList.take i := by rw [Lib.extract_eq]; simp
    have e2 : (s.extract (i + 1) s.size).data.toList = s.data.toList.drop (i + 1) := by
      rw [Lib.extract_eq]
      simp only
      rw [List.take_of_length_le (by rw [List.length_drop, hsz]; exact Nat.le_refl _)]
    refine .yes (c := 47) ?_ ?_ rfl
    · rw [e1, e2]
      have h3 : s.data.toList[i] = 47 := (List.getElem?_eq_some_iff.1 h1).2
      rw [← h3, ← List.drop_eq_getElem_cons hlt, List.take_append_drop]
    · intro d hd e
      rw [e1] at hd
      obtain ⟨k, hk⟩ := List.getElem?_of_mem hd
      have hk2 : k < i := by have := (List.getElem?_eq_some_iff.1 hk).1; simp at this; omega
      rw [List.getElem?_take_of_lt hk2] at hk
      have hc47 : d = 47 := UInt8.toNat_inj.1 (by rw [e]; rfl)
      exact h2 k hk2 (by rw [hk, hc47])
abbrev CutPost (s : ByteArray) (W : World) (e : Ending) (W' : World) : Prop := ∃ a b t, e = .returned (.tuple #[.string a, .string b, .bool t]) ∧ CutAt s a b t ∧ Gw W W'
set_option maxHeartbeats 2000000 in
theorem lcut_any (s : ByteArray) (W : World) (hs : s.size ≤ 140737488351232) : Calls Try.prog 43 #[.string s, .string ⟨#[47]⟩] W (CutPost s W) := by
  have F := fun w => Try.stringslite_Index_one s 47 w
  rcases cut_of s with ⟨h, hc⟩ | ⟨i, h, hi, hc⟩
  · have HC := Lib.hid hc
    rw [h] at F
    clear hc h
    go_enter Try.func43, Try.ntmps43
    go_wp2_with (go_at_call 46; with_reducible refine (F _).mono ?_; rintro e w' ⟨rfl, rfl⟩)
    go_ret3
    exact ⟨_, _, _, rfl, HC.out, Gw.refl _⟩
  · have HC := Lib.hid hc
    rw [h] at F
    clear hc h
    have c1 : (0 : Int) ≤ ↑i := by omega
    have c2 : (↑i : Int) ≤ ↑s.size := by omega
    have c3 : (0 : Int) ≤ ↑i + 1 := by omega
    have c4 : (↑i + 1 : Int) ≤ ↑s.size := by omega
    go_enter Try.func43, Try.ntmps43
    go_wp2_with (go_at_call 46; with_reducible refine (F _).mono ?_; rintro e w' ⟨rfl, rfl⟩)
    go_region
    go_wp2
    go_ret3
    exact ⟨_, _, _, rfl, HC.out, (Gw.refl _).drew⟩
theorem cut_any (s : ByteArray) (W : World) (hs : s.size ≤ 140737488351232) : Calls Try.prog 38 #[.string s, .string ⟨#[47]⟩] W (CutPost s W) := by
  go_enter Try.func38, Try.ntmps38
  go_wp2_with (go_at_call 43; with_reducible refine (lcut_any s _ hs).mono ?_; rintro e w' ⟨a, b, t, rfl, HC, HG⟩)
  go_ret3
  exact ⟨_, _, _, rfl, HC, HG⟩
theorem cut_size {s a b : ByteArray} {t : Bool} (h : CutAt s a b t) : a.size ≤ s.size ∧ b.size ≤ s.size := by
  have sz : ∀ x : ByteArray, x.size = x.data.toList.length := fun x => by rw [Array.length_toList]; rfl
  cases h with
  | no => exact ⟨Nat.le_refl _, Nat.zero_le _⟩
  | yes h1 _ _ =>
    rw [sz a, sz b, sz s, h1]
    simp
    omega
theorem name_of {s a b : ByteArray} {t : Bool} (h : CutAt s a b t) (h8 : s.size ≤ 8) : nameB s.data.toList = (partB a.data.toList && (!t || partB b.data.toList)) := by
  have hsz : s.data.toList.length ≤ 8 := by rw [Array.length_toList]; exact h8
  cases h with
  | no h1 => rw [name_one h1, decide_eq_true hsz]; simp
  | yes h1 h2 h3 =>
    have hsz' := hsz
    rw [h1] at hsz ⊢
    rw [name_two h2 h3, decide_eq_true hsz]
    simp
set_option maxHeartbeats 2000000 in
theorem isname_any (s : ByteArray) (W : World) (hs : s.size ≤ 140737488351232) : Calls Try.prog 29 #[.string s] W fun e W' => e = .returned (.bool (nameB s.data.toList)) ∧ Gw W W' := by
  have hn : ∀ b w, (Op.unary .not (.bool b)).run Try.prog w = .ok (.bool (!b)) w := fun _ _ => rfl
  by_cases h8 : 8 < s.size
  · have hb : nameB s.data.toList = false := by
      have : ¬ s.data.toList.length ≤ 8 := by rw [Array.length_toList]; exact Nat.not_le.2 h8
      unfold nameB
      rw [decide_eq_false this]
      simp
    rw [hb]
    have h8' : (8 : Int) < s.size := by omega
    clear hb
    go_enter Try.func29, Try.ntmps29
    go_wp2
    go_ret
    exact ⟨rfl, Gw.refl _⟩
  · have h8' : decide ((8 : Int) < s.size) = false := decide_eq_false (by omega)
    have H8 := Lib.hid (show s.size ≤ 8 by omega)
    have CU := fun w => cut_any s w hs
    clear h8
    go_enter Try.func29, Try.ntmps29
    go_upto_region 4 with (go_at_call 38; with_reducible refine (CU _).mono ?_; rintro e w' ⟨a, b, t, rfl, hc, G1⟩)
    have HN := Lib.hid (name_of hc H8.out)
    have ha : a.size ≤ 140737488351232 := Nat.le_trans (cut_size hc).1 hs
    have hb : b.size ≤ 140737488351232 := Nat.le_trans (cut_size hc).2 hs
    have PA := fun w => part_any a w ha
    have PB := fun w => part_any b w hb
    clear hc
    cases hpa : partB a.data.toList with
    | false =>
      rw [hpa] at PA HN
      go_wp2_with (go_at_call 39; with_reducible refine (PA _).mono ?_; rintro e w' ⟨rfl, rfl⟩)
      go_ret
      exact ⟨by rw [HN.out]; rfl, G1⟩
    | true =>
      rw [hpa] at PA HN
      cases t with
      | false =>
        go_wp2_with (go_at_call 39; with_reducible refine (PA _).mono ?_; rintro e w' ⟨rfl, rfl⟩)
        go_ret
        exact ⟨by rw [HN.out]; rfl, G1⟩
      | true =>
        cases hpb : partB b.data.toList with
        | false =>
          rw [hpb] at PB HN
          go_wp2_with (go_at_call 39; first | (with_reducible refine (PA _).mono ?_; rintro e w' ⟨rfl, rfl⟩) | (with_reducible refine (PB _).mono ?_; rintro e w' ⟨rfl, rfl⟩))
          go_ret
          exact ⟨by rw [HN.out]; rfl, G1⟩
        | true =>
          rw [hpb] at PB HN
          go_wp2_with (go_at_call 39; first | (with_reducible refine (PA _).mono ?_; rintro e w' ⟨rfl, rfl⟩) | (with_reducible refine (PB _).mono ?_; rintro e w' ⟨rfl, rfl⟩))
          go_ret
          exact ⟨by rw [HN.out]; rfl, G1⟩
theorem clo_name (s : ByteArray) (W : World) (hs : s.size ≤ 140737488351232) : Calls Try.prog 28 #[.string s] W fun e W' => e = .returned (.bool (!nameB s.data.toList)) ∧ Gw W W' := by
  have hn : ∀ b w, (Op.unary .not (.bool b)).run Try.prog w = .ok (.bool (!b)) w := fun _ _ => rfl
  have F := fun w => isname_any s w hs
  generalize nameB s.data.toList = r at F ⊢
  go_enter Try.func28, Try.ntmps28
  go_wp2_with (go_at_call 29; with_reducible refine (F _).mono ?_; rintro e w' ⟨rfl, G1⟩)
  go_ret
  exact ⟨rfl, G1⟩
abbrev IdxPost (r : Bool) (W : World) (e : Ending) (w' : World) : Prop := ∃ k : Int, e = .returned (.int .i64 k) ∧ decide (0 ≤ k) = r ∧ Gw W w'
theorem any_take {α : Type} {p : α → Bool} {c : List α} {k : Nat} {l : α} (h : c[k]? = some l) : (c.take (k + 1)).any p = ((c.take k).any p || p l) := by
  have hk := (List.getElem?_eq_some_iff.1 h).1
  rw [List.take_succ_eq_append_getElem hk, List.any_append, (List.getElem?_eq_some_iff.1 h).2]; simp
theorem any_of {α : Type} {p : α → Bool} {c : List α} {k : Nat} {l : α} (h : c[k]? = some l) (hp : p l = true) : c.any p = true :=
  List.any_eq_true.2 ⟨l, List.mem_of_getElem? h, hp⟩
set_option maxHeartbeats 2000000 in
theorem nidx_any {W : World} {B : Option Addr} {N : List ByteArray} {cb : Nat} (lb : N.length ≤ cb) (mb : cb ≤ 9223372036854775807) (h : StrAt W B N) (hs : ∀ s ∈ N, s.size ≤ 140737488351232) :
    Calls Try.prog 37 #[.slice B N.length cb, .func (.func 28) #[] #[]] W (IdxPost (N.any fun s => !nameB s.data.toList) W) := by
  have HC := Lib.hid h
  have hn : (N.length : Int) ≤ 9223372036854775807 := by omega
  clear h
  go_enter Try.func37, Try.ntmps37
  go_wp2_with fail
  go_loopw [8] (fun i wr => ∃ k : Nat, k ≤ N.length ∧ i = .int .i64 k ∧ Hid ((N.take k).any (fun s => !nameB s.data.toList) = false) ∧ Hid (Gw W wr)) (fun i _ => N.length - (intOf i).toNat)
  case atStart => exact ⟨0, by omega, rfl, by simp [Hid], Gw.refl _⟩
  case round =>
    obtain ⟨k, hk, rfl, H, GW⟩ := hrel
    by_cases hlt : k < N.length
    · obtain ⟨s, hsk⟩ : ∃ s, N[k]? = some s := ⟨_, List.getElem?_eq_getElem hlt⟩
      obtain ⟨g, off, rfl, hg, hcell⟩ := (HC.out.keep (fun j hj => GW.out.block j hj) GW.out.size) k s hsk
      have cl := fun w => clo_name s w (hs s (List.mem_of_getElem? hsk))
      cases hr : (!nameB s.data.toList) with
      | true =>
        have HE := Lib.hid (show N.any (fun s => !nameB s.data.toList) = true from any_of hsk hr)
        rw [hr] at cl
        clear hsk hr
        go_wp2_with (go_at_call 28; ((with_reducible refine (cl _).mono ?_); rintro e w' ⟨rfl, G1⟩))
        go_ret
        exact ⟨_, rfl, by rw [HE.out]; simp, GW.out.trans G1⟩
      | false =>
        have HE := Lib.hid (show (N.take (k + 1)).any (fun s => !nameB s.data.toList) = false by rw [any_take hsk, H.out, hr]; rfl)
        rw [hr] at cl
        clear hsk hr
        go_wp2_with (go_at_call 28; ((with_reducible refine (cl _).mono ?_); rintro e w' ⟨rfl, G1⟩))
        go_roundw
        case rel => exact ⟨k + 1, by omega, by go_num, HE.out, GW.out.trans G1⟩
        case measure => simp [intOf]; omega
    · obtain rfl : k = N.length := by omega
      have HE := Lib.hid (show N.any (fun s => !nameB s.data.toList) = false by have := H.out; rw [List.take_length] at this; exact this)
      clear H
      go_wp2_with fail
      go_ret
      exact ⟨_, rfl, by rw [HE.out]; rfl, GW.out⟩
theorem ncont_any {W : World} {B : Option Addr} {N : List ByteArray} {cb : Nat} (lb : N.length ≤ cb) (mb : cb ≤ 9223372036854775807) (h : StrAt W B N) (hs : ∀ s ∈ N, s.size ≤ 140737488351232) :
    Calls Try.prog 27 #[.slice B N.length cb, .func (.func 28) #[] #[]] W fun e W' => e = .returned (.bool (N.any fun s => !nameB s.data.toList)) ∧ Gw W W' := by
  have K := nidx_any lb mb h hs
  clear h hs
  generalize N.any (fun s => !nameB s.data.toList) = r at K ⊢
  go_enter Try.func27, Try.ntmps27
  go_wp2_with (go_at_call 37; ((with_reducible refine K.mono ?_); rintro e w' ⟨k, rfl, hr, G⟩))
  go_ret
  exact ⟨by rw [← hr]; rfl, G⟩
end Go.Proofs.Ythjbjbbbbdhcmaa
