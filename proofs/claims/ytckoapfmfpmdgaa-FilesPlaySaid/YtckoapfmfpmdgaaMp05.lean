/-
  Parts of the proof, joined: NameS, TreeR.
-/
import Derived.Test.YtckoapfmfpmdgaaMp01
import Derived.Test.YtckoapfmfpmdgaaMp04

namespace Go.Proofs.Ytckoapfmfpmdgaa
open Go.ChangeShapes Go.WideShapes Go.ChangeAt Go.RowKit Go.Joins
set_option linter.unusedVariables false

/-- A text of these bytes. -/
def bs (l : List UInt8) : ByteArray := ⟨l.toArray⟩
theorem bs_list (l : List UInt8) : (bs l).toList = l := ByteArray.toList_mk l
theorem bs_data (l : List UInt8) : (bs l).data.toList = l := rfl
theorem bs_self (s : ByteArray) : bs s.data.toList = s := by unfold bs; simp
theorem bs_size (l : List UInt8) : (bs l).size = l.length := by show l.toArray.size = l.length; simp
theorem str_list (s : ByteArray) : s.toList = s.data.toList := (Lib.toList_data s)
theorem str_size (s : ByteArray) : s.size = s.data.toList.length := by rw [Array.length_toList]; rfl
theorem bs_inj {a b : List UInt8} (h : bs a = bs b) : a = b := by have := congrArg (·.data.toList) h; simpa [bs_data] using this
theorem name_size {s : ByteArray} (h : nameB s.data.toList = true) : s.size ≤ 8 ∧ 1 ≤ s.size := by
  have h1 := str_size s
  rcases name_cases h with ⟨h2, h3, _⟩ | ⟨a, b, c, h2, _, _, _, h3, _⟩
  · have := part_ne h2
    have h4 : 0 < s.data.toList.length := List.length_pos_iff.2 this
    omega
  · have h4 : 0 < s.data.toList.length := by rw [h2]; simp; omega
    omega
theorem ext_take {s : ByteArray} {k : Nat} : s.extract 0 k = bs (s.data.toList.take k) := by
  rw [Lib.extract_eq]
  simp [bs]
theorem ext_drop {s : ByteArray} {k : Nat} : s.extract k s.size = bs (s.data.toList.drop k) := by
  rw [Lib.extract_eq, List.take_of_length_le (by rw [List.length_drop, str_size]; exact Nat.le_refl _)]
  rfl
/-- A stroke at k, none ahead of it. -/
theorem spl_at {l : List UInt8} {k : Nat} {c : UInt8} (h : nameB l = true) (hc : l[k]? = some c) (h47 : c.toNat = 47) (hb : ∀ d ∈ l.take k, d.toNat ≠ 47) : spl l = (l.take k, l.drop (k + 1)) := by
  have hk := (List.getElem?_eq_some_iff.1 hc).1
  have he := (List.getElem?_eq_some_iff.1 hc).2
  have e : l = l.take k ++ c :: l.drop (k + 1) := by rw [← he, ← List.drop_eq_getElem_cons hk, List.take_append_drop]
  have h2 := h
  rw [e] at h2
  have := spl_two h2 hb h47
  rw [← e] at this
  exact this
set_option maxHeartbeats 4000000 in
theorem rsplit_any (s : ByteArray) (W : World) (hs : s.size ≤ 140737488351232) : Calls Try.prog 46 #[.string s] W fun e W' => e = .returned (.tuple #[.string (bs (spl s.data.toList).1), .string (bs (spl s.data.toList).2)]) ∧ Gw W W' := by
  have F := fun w => rname_any s w
  have hn : ∀ b w, (Op.unary .not (.bool b)).run Try.prog w = .ok (.bool (!b)) w := fun _ _ => rfl
  cases hb : nameB s.data.toList with
  | false =>
    rw [hb] at F
    rw [spl_no hb]
    clear hb
    go_enter Try.func46, Try.ntmps46
    go_wp2_with (go_at_call 44; with_reducible refine (F _).mono ?_; rintro e w' ⟨rfl, G1⟩)
    go_ret2
    exact ⟨rfl, G1⟩
  | true =>
    rw [hb] at F
    obtain ⟨l, hl⟩ : ∃ l, l = s.data.toList := ⟨_, rfl⟩
    have hsz : s.size = l.length := by rw [hl]; exact str_size s
    rw [← hl] at hb ⊢
    have HNB := Lib.hid hb
    have HL := Lib.hid hl
    have HSZ := Lib.hid hsz
    have h8 : l.length ≤ 8 := by have := (name_size (s := s) (by rw [← hl]; exact hb)).1; omega
    obtain ⟨p, hp⟩ : ∃ p, p = spl l := ⟨_, rfl⟩
    rw [← hp]
    have HP := Lib.hid hp
    clear hb hl hsz hp
    go_enter Try.func46, Try.ntmps46
    go_upto_region 4 with (go_at_call 44; with_reducible refine (F _).mono ?_; rintro e w' ⟨rfl, G1⟩)
    go_loopw [4] (fun i wr => ∃ k : Nat, k ≤ l.length ∧ i = .int .i64 k ∧ Hid (∀ d ∈ l.take k, d.toNat ≠ 47) ∧ Hid (Gw W wr)) (fun i _ => l.length - (intOf i).toNat)
    case atStart => exact ⟨0, by omega, rfl, fun d hd => by simp at hd, G1⟩
    case round =>
      obtain ⟨k, hk, rfl, HA, G⟩ := hrel
      by_cases hlt : k < l.length
      · obtain ⟨c, hc⟩ : ∃ c, l[k]? = some c := ⟨_, List.getElem?_eq_getElem hlt⟩
        have hlt' : k < s.size := by rw [HSZ.out]; exact hlt
        have hck := byte_at HL.out hc hlt'
        by_cases h47 : c.toNat = 47
        · have HX := Lib.hid (spl_at HNB.out hc h47 HA.out)
          have e47 : ((c.toNat : Nat) : Int) = 47 := by omega
          have c1 : (0 : Int) ≤ ↑k := by omega
          have c2 : (↑k : Int) ≤ ↑s.size := by omega
          have c3 : (0 : Int) ≤ ↑k + 1 := by omega
          have c4 : (↑k + 1 : Int) ≤ ↑s.size := by omega
          clear hc HA h47
          go_upto_region 7 with fail
          go_region
          go_wp2
          go_ret2
          refine ⟨?_, G.out.drew⟩
          rw [HP.out, HX.out, HL.out, ← ext_take, ← ext_drop]
          rfl
        · have HA2 : Hid (∀ d ∈ l.take (k + 1), d.toNat ≠ 47) := fun d hd => by
            obtain ⟨hi, he⟩ := List.getElem?_eq_some_iff.1 hc
            rw [List.take_succ_eq_append_getElem hi, he] at hd
            rcases List.mem_append.1 hd with hd | hd
            · exact HA.out d hd
            · simp at hd; subst hd; exact h47
          have e47 : (((c.toNat : Nat) : Int) == 47) = false := by simp; omega
          have e47' : ¬ ((c.toNat : Nat) : Int) = 47 := by omega
          clear hc HA h47
          go_wp2
          go_roundw
          case rel => exact ⟨k + 1, by omega, by go_num, HA2.out, G.out⟩
          case measure => simp [intOf]; omega
      · obtain rfl : k = l.length := by omega
        have HX : Hid (spl l = ([], l)) := spl_one HNB.out (by have := HA.out; rw [List.take_length] at this; exact this)
        have hlt' : ¬ l.length < s.size := by rw [HSZ.out]; omega
        clear HA
        go_wp2
        go_ret2
        refine ⟨?_, G.out⟩
        rw [HP.out, HX.out, HL.out, bs_self]
        rfl
end Go.Proofs.Ytckoapfmfpmdgaa

namespace Go.Proofs.Ytckoapfmfpmdgaa
open Go.ChangeShapes Go.WideShapes Go.ChangeAt Go.RowKit Go.Joins
set_option linter.unusedVariables false
set_option linter.unusedSimpArgs false

theorem flat_at {α : Type} {f : α → List Value} {s : Nat} (hs : ∀ a, (f a).length = s) : ∀ (l : List α) (i j : Nat) (a : α), l[i]? = some a → j < s → (l.flatMap f)[i * s + j]? = (f a)[j]?
  | [], i, j, a, h, _ => by simp at h
  | b :: l, 0, j, a, h, hj => by
    have : b = a := by simpa using h
    subst this
    rw [List.flatMap_cons, Nat.zero_mul, Nat.zero_add, List.getElem?_append_left (by rw [hs]; exact hj)]
  | b :: l, i + 1, j, a, h, hj => by
    have e : (i + 1) * s + j = s + (i * s + j) := by rw [Nat.add_mul]; omega
    rw [List.flatMap_cons, e, List.getElem?_append_right (by rw [hs]; omega), hs, Nat.add_sub_cancel_left]
    exact flat_at hs l i j a (by simpa using h) hj
theorem flat_set {α : Type} {f : α → List Value} {s : Nat} (hs : ∀ a, (f a).length = s) {v : Value} : ∀ (l : List α) (i j : Nat) (a a' : α), l[i]? = some a → j < s → f a' = (f a).set j v → (l.flatMap f).set (i * s + j) v = (l.set i a').flatMap f
  | [], i, j, a, a', h, _, _ => by simp at h
  | b :: l, 0, j, a, a', h, hj, he => by
    have : b = a := by simpa using h
    subst this
    rw [List.flatMap_cons, Nat.zero_mul, Nat.zero_add, List.set_append_left _ _ (by rw [hs]; exact hj), List.set_cons_zero, List.flatMap_cons, he]
  | b :: l, i + 1, j, a, a', h, hj, he => by
    have e : (i + 1) * s + j = s + (i * s + j) := by rw [Nat.add_mul]; omega
    rw [List.flatMap_cons, e, List.set_append_right _ _ (by rw [hs]; omega), hs, Nat.add_sub_cancel_left, List.set_cons_succ, List.flatMap_cons, flat_set hs l i j a a' (by simpa using h) hj he]
theorem flat_len {α : Type} {f : α → List Value} {s : Nat} (hs : ∀ a, (f a).length = s) : ∀ l : List α, (l.flatMap f).length = l.length * s
  | [] => by simp
  | a :: l => by rw [List.flatMap_cons, List.length_append, hs, flat_len hs l, List.length_cons, Nat.add_mul]; omega
def iC (i : Itm) : List Value := [.string (bs i.p), .bool i.d, .int .i64 i.n]
theorem iC_len (i : Itm) : (iC i).length = 3 := rfl
def iCs (l : List Itm) : List Value := l.flatMap iC
theorem iCs_len (l : List Itm) : (iCs l).length = l.length * 3 := flat_len iC_len l
theorem iCs_at {l : List Itm} {k : Nat} {i : Itm} (h : l[k]? = some i) : (iCs l)[k * 3]? = some (.string (bs i.p)) ∧ (iCs l)[k * 3 + 1]? = some (.bool i.d) ∧ (iCs l)[k * 3 + 2]? = some (.int .i64 i.n) :=
  ⟨flat_at iC_len l k 0 i h (by decide), flat_at iC_len l k 1 i h (by decide), flat_at iC_len l k 2 i h (by decide)⟩
/-- A tree in memory: the block of its head, its row. -/
structure RT (B : Nat) (w : World) (g : Nat) (sl : Value) (s : St) : Prop where
  hd : Has w g 39 #[sl, .int .i64 s.nx]
  row : w.ownsRow B 95 3 sl s.l.length (iCs s.l)
  ne : sl.ownBlock ≠ some g
  hB : B ≤ g
  len : s.l.length ≤ 8
theorem RT.same {B : Nat} {w w' : World} {g : Nat} {sl : Value} {s : St} (h : RT B w g sl s) (k : ∀ b, (b = g ∨ sl.ownBlock = some b) → w'.heap[b]? = w.heap[b]?) : RT B w' g sl s := by
  refine ⟨h.hd.same (k g (.inl rfl)), ⟨h.row.1, ?_⟩, h.ne, h.hB, h.len⟩
  rcases h.row.2 with h0 | ⟨b, cap, cur, h0, h1, h2, h3⟩
  · exact .inl h0
  · exact .inr ⟨b, cap, cur, h0, h1, (k b (.inr (by rw [h0]; rfl))).trans h2, h3⟩
theorem RT.lt {B : Nat} {w : World} {g : Nat} {sl : Value} {s : St} (h : RT B w g sl s) : ∀ b, (b = g ∨ sl.ownBlock = some b) → b < w.heap.size := by
  rintro b (rfl | hb)
  · exact h.hd.lt
  · rcases h.row.2 with ⟨h0, _⟩ | ⟨g', cap, cur, h0, h1, h2, _⟩
    · rw [h0] at hb; cases hb
    · rw [h0] at hb; cases hb; exact lt_of_heap h2
theorem RT.on {B : Nat} {w w' : World} {g : Nat} {sl : Value} {s : St} (h : RT B w g sl s) (G : Gw w w') : RT B w' g sl s := h.same fun b hb => G.block b (h.lt b hb)
/-- The slice, and what it shows. -/
structure SlAt (w : World) (sl : Value) (l : List Itm) : Prop where
  form : (sl = .slice none 0 0 ∧ l = []) ∨ ∃ r cap, sl = .slice (some ⟨r, 0, none⟩) l.length cap ∧ l.length ≤ cap ∧ cap ≤ maxLen ∧ ∀ k i, l[k]? = some i → w.cell? ⟨r, k * 3, none⟩ = some (.string (bs i.p)) ∧ w.cell? ⟨r, k * 3 + 1, none⟩ = some (.bool i.d) ∧ w.cell? ⟨r, k * 3 + 2, none⟩ = some (.int .i64 i.n)
theorem RT.sl {B : Nat} {w : World} {g : Nat} {sl : Value} {s : St} (h : RT B w g sl s) : SlAt w sl s.l := by
  rcases h.row.2 with ⟨h0, h1⟩ | ⟨r, cap, cur, h0, h1, h2, h3, h4, h5, h6⟩
  · exact ⟨.inl ⟨h0, List.length_eq_zero_iff.1 h1⟩⟩
  · refine ⟨.inr ⟨r, cap, h0, h3, h4, fun k i hi => ?_⟩⟩
    have hk := (List.getElem?_eq_some_iff.1 hi).1
    have e : ∀ j v, (iCs s.l)[j]? = some v → w.cell? ⟨r, j, none⟩ = some v := fun j v hj => by
      rw [← h6, List.getElem?_take] at hj
      rw [cell_of_row w r j cur _ _ h2]
      split at hj
      · simpa using hj
      · cases hj
    obtain ⟨a, b, c⟩ := iCs_at hi
    exact ⟨e _ _ a, e _ _ b, e _ _ c⟩
theorem ix_no {l : List Itm} {p : List UInt8} (HB : ∀ i ∈ l, is p i = false) : ixT l p = -1 := by
  unfold ixT
  rw [List.findIdx?_eq_none_iff.2 (fun x hx => by rw [HB x hx])]
theorem ix_at {l : List Itm} {p : List UInt8} {k : Nat} {i : Itm} (HB : ∀ i ∈ l.take k, is p i = false) (hi : l[k]? = some i) (hq : is p i = true) : ixT l p = k := by
  unfold ixT
  obtain ⟨hk, he⟩ := List.getElem?_eq_some_iff.1 hi
  have : l.findIdx? (is p) = some k := List.findIdx?_eq_some_iff_getElem.2 ⟨hk, by rw [he]; exact hq, fun j hj => by
    have : is p l[j] = false := HB _ (List.mem_take_iff_getElem.2 ⟨j, by omega, rfl⟩)
    rw [this]; decide⟩
  rw [this]
set_option maxHeartbeats 4000000 in
theorem at_same {B : Nat} {W : World} {g : Nat} {sl : Value} {s : St} (h : RT B W g sl s) (p : ByteArray) : Calls Try.prog 45 #[.pointer (some ⟨g, 0, none⟩), .string p] W fun e W' => e = .returned (.int .i64 (ixT s.l p.data.toList)) ∧ W' = W := by
  have c0 := (box0 h.hd).1
  have hl8 := h.len
  rcases h.sl.form with ⟨rfl, hn⟩ | ⟨r, cap, rfl, hcap, hcl, hc⟩
  · have e0 : ixT s.l p.data.toList = -1 := by rw [hn]; rfl
    rw [e0]
    clear h hn e0
    go_enter Try.func45, Try.ntmps45
    go_upto_region 2 with fail
    go_loopw [5] (fun i wr => i = .int .i64 0 ∧ wr = W) (fun i _ => 0)
    case atStart => exact ⟨rfl, rfl⟩
    case round =>
      obtain ⟨rfl, rfl⟩ := hrel
      go_wp2
      go_ret
      exact ⟨rfl, rfl⟩
  · obtain ⟨l, hl⟩ : ∃ l, l = s.l := ⟨_, rfl⟩
    rw [← hl] at c0 hcap hc hl8 ⊢
    obtain ⟨a, ha⟩ : ∃ a, a = ixT l p.data.toList := ⟨_, rfl⟩
    rw [← ha]
    have HA := Lib.hid ha
    have HC := Lib.hid hc
    clear h hl hc ha
    go_enter Try.func45, Try.ntmps45
    go_upto_region 2 with fail
    go_loopw [5] (fun i wr => ∃ k : Nat, k ≤ l.length ∧ i = .int .i64 k ∧ wr = W ∧ Hid (∀ i ∈ l.take k, is p.data.toList i = false)) (fun i _ => l.length - (intOf i).toNat)
    case atStart => exact ⟨0, by omega, rfl, rfl, fun d hd => by simp at hd⟩
    case round =>
      obtain ⟨k, hk, rfl, rfl, HB⟩ := hrel
      by_cases hlt : k < l.length
      · obtain ⟨i, hi⟩ : ∃ i, l[k]? = some i := ⟨_, List.getElem?_eq_getElem hlt⟩
        obtain ⟨d0, d1, d2⟩ := HC.out k i hi
        obtain ⟨q, hq⟩ : ∃ q, q = is p.data.toList i := ⟨_, rfl⟩
        have e0 : ((bs i.p).toList == p.toList) = q := by rw [bs_list, str_list, hq]
        have HQ := Lib.hid hq
        have HI := Lib.hid hi
        clear hq hi
        cases q with
        | true =>
          go_wp2
          go_ret
          refine ⟨?_, rfl⟩
          rw [HA.out, ix_at HB.out HI.out HQ.out.symm]; rfl
        | false =>
          have HB2 : Hid (∀ i ∈ l.take (k + 1), is p.data.toList i = false) := fun d hd => by
            rw [List.take_succ_eq_append_getElem hlt] at hd
            rcases List.mem_append.1 hd with hd | hd
            · exact HB.out d hd
            · have he : l[k] = i := by have := HI.out; rw [List.getElem?_eq_getElem hlt] at this; exact Option.some.inj this
              simp [he] at hd; subst hd; exact HQ.out.symm
          go_wp2
          go_roundw
          case rel => exact ⟨k + 1, by omega, by go_num, trivial, HB2⟩
          case measure => simp [intOf]; omega
      · obtain rfl : k = l.length := by omega
        have e := ix_no (HB := (by have := HB.out; rw [List.take_length] at this; exact this : ∀ i ∈ l, is p.data.toList i = false))
        go_wp2
        go_ret
        exact ⟨by rw [HA.out, e]; rfl, rfl⟩
theorem at_any {B : Nat} {W : World} {g : Nat} {sl : Value} {s : St} (h : RT B W g sl s) (p : ByteArray) : Calls Try.prog 45 #[.pointer (some ⟨g, 0, none⟩), .string p] W fun e W' => e = .returned (.int .i64 (ixT s.l p.data.toList)) ∧ Gw W W' :=
  (at_same h p).mono fun _ _ ⟨he, hw⟩ => ⟨he, hw ▸ Gw.refl _⟩
theorem sl_look {W : World} {sl : Value} {l : List Itm} {p : List UInt8} {i : Itm} (h : SlAt W sl l) (hl : look l p = some i) : ∃ (k r cap : Nat), ixT l p = k ∧ l[k]? = some i ∧ k < l.length ∧ sl = .slice (some ⟨r, 0, none⟩) l.length cap ∧ l.length ≤ cap ∧ cap ≤ maxLen ∧
    W.cell? ⟨r, k * 3, none⟩ = some (.string (bs i.p)) ∧ W.cell? ⟨r, k * 3 + 1, none⟩ = some (.bool i.d) ∧ W.cell? ⟨r, k * 3 + 2, none⟩ = some (.int .i64 i.n) := by
  obtain ⟨k, h1, h2, _⟩ := ix_some hl
  have hk := (List.getElem?_eq_some_iff.1 h2).1
  rcases h.form with ⟨_, h3⟩ | ⟨r, cap, h3, h4, h5, h6⟩
  · rw [h3] at hk; exact absurd hk (by simp)
  · obtain ⟨a, b, c⟩ := h6 k i h2
    exact ⟨k, r, cap, h1, h2, hk, h3, h4, h5, a, b, c⟩
set_option maxHeartbeats 4000000 in
theorem above_any {B : Nat} {W : World} {g : Nat} {sl : Value} {s : St} (h : RT B W g sl s) (p : ByteArray) (hp : p.size ≤ 140737488351232) : Calls Try.prog 80 #[.pointer (some ⟨g, 0, none⟩), .string p] W fun e W' => e = .returned (.int .u16 (abv s.l p.data.toList)) ∧ Gw W W' := by
  have S := fun w => rsplit_any p w hp
  have GG : Gw W W := Gw.refl W
  unfold abv
  obtain ⟨q, hq⟩ : ∃ q, q = spl p.data.toList := ⟨_, rfl⟩
  rw [← hq] at S ⊢
  obtain ⟨q1, q2⟩ := q
  clear hq
  by_cases h1 : q1 = []
  · subst h1
    have e1 : (bs [] : ByteArray).toList.isEmpty = true := by rw [bs_list]; rfl
    go_enter Try.func80, Try.ntmps80
    go_wp2_with (go_at_call 46; with_reducible refine (S _).mono ?_; rintro e w' ⟨rfl, G1⟩; have GG := GG.trans G1)
    go_ret
    exact ⟨by simp, GG⟩
  · have e1 : (bs q1).toList.isEmpty = false := by rw [bs_list]; cases q1 with | nil => exact absurd rfl h1 | cons => rfl
    simp only [h1, if_false]
    cases hk : look s.l q1 with
    | none =>
      have hix := ix_none hk
      have T := fun w (k : Gw W w) => at_any (h.on k) (bs q1)
      simp only [bs_data, hix] at T
      clear hk hix
      go_enter Try.func80, Try.ntmps80
      go_wp2_with (first
        | (go_at_call 46; with_reducible refine (S _).mono ?_; rintro e w' ⟨rfl, G1⟩; have GG := GG.trans G1)
        | (go_at_call 45; with_reducible refine (T _ GG).mono ?_; rintro e w' ⟨rfl, G1⟩; have GG := GG.trans G1))
      go_ret
      exact ⟨by simp, GG⟩
    | some i =>
      obtain ⟨k, r, cap, hix, _, hlt, rfl, hcap, hcm, D0, D1, D2⟩ := sl_look h.sl hk
      have C0 := (box0 h.hd).1
      have T := fun w (k : Gw W w) => at_any (h.on k) (bs q1)
      simp only [bs_data, hix] at T
      have hk0 : decide ((k : Int) < 0) = false := decide_eq_false (by omega)
      clear hk hix
      show Calls _ _ _ _ fun e W' => e = .returned (.int .u16 (if i.d = true then 0 else 65300)) ∧ Gw W W'
      generalize i.d = dd at *
      cases dd <;>
      · simp only [if_true, Bool.false_eq_true, if_false]
        go_enter Try.func80, Try.ntmps80
        go_wp2_with (first
          | (go_at_call 46; with_reducible refine (S _).mono ?_; rintro e w' ⟨rfl, G1⟩; have GG := GG.trans G1)
          | (go_at_call 45; with_reducible refine (T _ GG).mono ?_; rintro e w' ⟨rfl, G1⟩; have GG := GG.trans G1; have c0 := GG.cell C0; have d1 := GG.cell D1))
        go_ret
        exact ⟨rfl, GG⟩
theorem many_step {l : List Itm} {p : List UInt8} {k : Nat} {i : Itm} (h : l[k]? = some i) : manyL (l.take (k + 1)) p = manyL (l.take k) p + (if (spl i.p).1 = p then 1 else 0) := by
  obtain ⟨hk, he⟩ := List.getElem?_eq_some_iff.1 h
  unfold manyL
  rw [List.take_succ_eq_append_getElem hk, List.filter_append, List.length_append, he]
  by_cases hq : (spl i.p).1 = p <;> simp [hq]
theorem many_le (l : List Itm) (p : List UInt8) : manyL l p ≤ l.length := List.length_filter_le _ _
/-- What a row holds is small enough to be split. -/
def Sml (l : List Itm) : Prop := ∀ i ∈ l, i.p.length ≤ 140737488351232
set_option maxHeartbeats 4000000 in
theorem many_any {B : Nat} {W : World} {g : Nat} {sl : Value} {s : St} (h : RT B W g sl s) (hsm : Sml s.l) (p : ByteArray) : Calls Try.prog 81 #[.pointer (some ⟨g, 0, none⟩), .string p] W fun e W' => e = .returned (.int .i64 (manyL s.l p.data.toList)) ∧ Gw W W' := by
  have C0 := (box0 h.hd).1
  have hl8 := h.len
  rcases h.sl.form with ⟨rfl, hn⟩ | ⟨r, cap, rfl, hcap, hcl, hc⟩
  · have e0 : (manyL s.l p.data.toList : Int) = 0 := by rw [hn]; rfl
    rw [e0]
    clear h hn e0 hsm
    go_enter Try.func81, Try.ntmps81
    go_upto_region 3 with fail
    go_loopw [5, 6] (fun c i wr => c = .int .i64 0 ∧ i = .int .i64 0 ∧ wr = W) (fun _ i _ => 0)
    case atStart => exact ⟨rfl, rfl, rfl⟩
    case round =>
      obtain ⟨rfl, rfl, rfl⟩ := hrel
      go_wp2
      go_ret
      exact ⟨rfl, Gw.refl _⟩
  · obtain ⟨l, hl⟩ : ∃ l, l = s.l := ⟨_, rfl⟩
    rw [← hl] at C0 hcap hc hl8 hsm ⊢
    obtain ⟨a, ha⟩ : ∃ a, a = manyL l p.data.toList := ⟨_, rfl⟩
    rw [← ha]
    have HA := Lib.hid ha
    have HC := Lib.hid hc
    have HS := Lib.hid hsm
    clear h hl hc ha hsm
    go_enter Try.func81, Try.ntmps81
    go_upto_region 3 with fail
    go_loopw [5, 6] (fun c i wr => ∃ k n : Nat, k ≤ l.length ∧ i = .int .i64 k ∧ c = .int .i64 n ∧ n ≤ k ∧ Hid (Gw W wr) ∧ Hid (n = manyL (l.take k) p.data.toList)) (fun _ i _ => l.length - (intOf i).toNat)
    case atStart => exact ⟨0, 0, by omega, rfl, rfl, by omega, Gw.refl _, rfl⟩
    case round =>
      obtain ⟨k, n, hk, rfl, rfl, hnk, GG, HN⟩ := hrel
      have c0 := GG.out.cell C0
      by_cases hlt : k < l.length
      · obtain ⟨i, hi⟩ : ∃ i, l[k]? = some i := ⟨_, List.getElem?_eq_getElem hlt⟩
        obtain ⟨D0, _, _⟩ := HC.out k i hi
        have d0 := GG.out.cell D0
        have hbs : (bs i.p).size ≤ 140737488351232 := by rw [bs_size]; exact HS.out i (List.mem_of_getElem? hi)
        have S := fun w => rsplit_any (bs i.p) w hbs
        rw [bs_data] at S
        have HM := Lib.hid (many_step (p := p.data.toList) hi)
        obtain ⟨q, hq⟩ : ∃ q, q = spl i.p := ⟨_, rfl⟩
        rw [← hq] at S HM
        obtain ⟨q1, q2⟩ := q
        clear hq hi hbs
        obtain ⟨b, hb⟩ : ∃ b, b = (q1 == p.data.toList) := ⟨_, rfl⟩
        have e0 : ((bs q1).toList == p.toList) = b := by rw [bs_list, str_list, hb]
        have HB := Lib.hid hb
        clear hb
        have w1 : IntKind.i64.wrap ((n : Int) + 1) = n + 1 := wrap_in (by omega) (by omega)
        cases b with
        | true =>
          have hq1 : Hid (q1 = p.data.toList) := eq_of_beq HB.out.symm
          go_wp2_with (go_at_call 46; with_reducible refine (S _).mono ?_; rintro e w' ⟨rfl, G1⟩; have GG := Lib.hid (GG.out.trans G1))
          go_roundw
          case rel => exact ⟨k + 1, n + 1, by omega, by go_num, by go_num, by omega, GG, by rw [HM.out, HN.out, if_pos hq1.out]; exact rfl⟩
          case measure => simp [intOf]; omega
        | false =>
          have hq1 : Hid (¬ q1 = p.data.toList) := fun e => by have := HB.out; rw [e] at this; simp at this
          go_wp2_with (go_at_call 46; with_reducible refine (S _).mono ?_; rintro e w' ⟨rfl, G1⟩; have GG := Lib.hid (GG.out.trans G1))
          go_roundw
          all_goals first
            | exact ⟨k + 1, n, by omega, by go_num, rfl, by omega, GG, by rw [HM.out, HN.out, if_neg hq1.out]; exact rfl⟩
            | (simp [intOf]; omega)
            | exact ⟨⟨k + 1, n, by omega, by go_num, rfl, by omega, GG, by rw [HM.out, HN.out, if_neg hq1.out]; exact rfl⟩, by simp [intOf]; omega⟩
      · obtain rfl : k = l.length := by omega
        have e : n = manyL l p.data.toList := by have := HN.out; rw [List.take_length] at this; exact this
        go_wp2
        go_ret
        exact ⟨by rw [HA.out, ← e]; rfl, GG.out⟩
end Go.Proofs.Ytckoapfmfpmdgaa
