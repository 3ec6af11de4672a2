/-
  The document's own bytes of a program.
-/
import Derived.Test.YthjbjbbbbdhcmaaProgG
import Derived.Test.YthjbjbbbbdhcmaaInstD
import Derived.Deep.Onto
namespace Go.Proofs.Ythjbjbbbbdhcmaa
open Go.ChangeShapes Go.WideShapes Go.ChangeAt Go.RowKit Go.Joins
set_option linter.unusedVariables false

/-- What a writer of bytes gives back: the error's number, and a row of the call's own. -/
abbrev BytesPost (L : List (Int × Int)) (N : List ByteArray) (w : World) (e : Ending) (w' : World) : Prop :=
  ∃ v, e = .returned (.tuple #[v, .int .i64 (errP L N)]) ∧ BRel w w' v (if errP L N = 0 then encP L N else [])
theorem err3 {L : List (Int × Int)} {N : List ByteArray} (h : 96 < L.length ∨ 8 < N.length) : errP L N = 3 := by unfold errP; rw [if_pos h]
theorem err10 {L : List (Int × Int)} {N : List ByteArray} (h1 : ¬ 96 < L.length) (h2 : ¬ 8 < N.length) {k : Nat} {s : ByteArray} (hs : N[k]? = some s) (h : ¬ s.size ≤ 255) : errP L N = 10 := by
  unfold errP
  rw [if_neg (by omega), if_pos (List.any_eq_true.2 ⟨s, List.mem_of_getElem? hs, decide_eq_true (by omega)⟩)]
theorem no10 {N : List ByteArray} (h : ∀ j s, j < N.length → N[j]? = some s → s.size ≤ 255) : N.any (fun s => decide (255 < s.size)) = false := by
  rw [List.any_eq_false]
  intro s hs
  obtain ⟨j, hj⟩ := List.getElem?_of_mem hs
  have := h j s (List.getElem?_eq_some_iff.1 hj).1 hj
  simp
  omega
theorem err5 {L : List (Int × Int)} {N : List ByteArray} (h1 : ¬ 96 < L.length) (h2 : ¬ 8 < N.length) (h3 : N.any (fun s => decide (255 < s.size)) = false) {k : Nat} {x : Int × Int} (hx : L[k]? = some x) (h : okI x = false) : errP L N = 5 := by
  unfold errP
  rw [if_neg (by omega), h3, if_neg (by decide), if_neg]
  intro ha
  have := List.all_eq_true.1 ha x (List.mem_of_getElem? hx)
  rw [h] at this
  cases this
theorem err0 {L : List (Int × Int)} {N : List ByteArray} (h1 : ¬ 96 < L.length) (h2 : ¬ 8 < N.length) (h3 : N.any (fun s => decide (255 < s.size)) = false) (h : ∀ x ∈ L, okI x = true) : errP L N = 0 := by
  unfold errP
  rw [if_neg (by omega), h3, if_neg (by decide), if_pos (List.all_eq_true.2 h)]
theorem BRel.none {w wr : World} (h : Gw w wr) : BRel w wr (.slice none 0 0) [] := ⟨⟨rfl, .inl ⟨rfl, rfl⟩⟩, h⟩
theorem post_err {L : List (Int × Int)} {N : List ByteArray} {w w' : World} {x : Int} (h : errP L N = x) (h0 : x ≠ 0) (hg : Gw w w') : BytesPost L N w (.returned (.tuple #[.slice Option.none 0 0, .int .i64 x])) w' :=
  ⟨_, by rw [h], by rw [if_neg (by rw [h]; exact h0)]; exact BRel.none hg⟩
theorem far1 {w : World} {base : Nat} {e : TypeId} {g n cap : Nat} {xs : List Value} (h : w.ownsRow base e 1 (.slice (some ⟨g, 0, Option.none⟩) n cap) n xs) {b : Nat} (hb : b < base) : some b ≠ (Value.slice (some ⟨g, 0, Option.none⟩) n cap).ownBlock := fun e => by
  have := (h.lt b e.symm).1
  omega
theorem u8_wrap {n : Int} (h0 : 0 ≤ n) (h1 : n ≤ 255) : IntKind.u8.wrap n = n := by
  simp only [IntKind.wrap, IntKind.bits, IntKind.signed]; simp; omega
theorem u8s_one {n : Nat} (h : n ≤ 255) : u8s [UInt8.ofNat n] = [.int .u8 (IntKind.u8.wrap n)] := by
  have e : IntKind.u8.wrap (n : Int) = n := by simp only [IntKind.wrap, IntKind.bits, IntKind.signed]; simp; omega
  have e2 : ((UInt8.ofNat n).toNat : Int) = n := by rw [UInt8.toNat_ofNat']; omega
  simp only [u8s, List.map_cons, List.map_nil]
  rw [e, e2]
theorem u8s_enc {x : Int × Int} (h1 : 1 ≤ x.1) (h2 : x.1 ≤ 41) (h3 : 0 ≤ x.2) (h4 : x.2 ≤ 65535) : u8s (encI x) = [.int .u8 (IntKind.u8.wrap x.1), .int .u8 (IntKind.u8.wrap (x.2 / 256)), .int .u8 (IntKind.u8.wrap x.2)] := by
  have w : ∀ n : Int, IntKind.u8.wrap n = n % 256 := fun n => by simp only [IntKind.wrap, IntKind.bits, IntKind.signed]; simp
  have t : ∀ n : Nat, ((UInt8.ofNat n).toNat : Int) = (n : Int) % 256 := fun n => by rw [UInt8.toNat_ofNat']; omega
  have e1 : ((UInt8.ofNat x.1.toNat).toNat : Int) = x.1 % 256 := by rw [t]; omega
  have e2 : ((UInt8.ofNat (x.2.toNat / 256)).toNat : Int) = (x.2 / 256) % 256 := by rw [t]; omega
  have e3 : ((UInt8.ofNat x.2.toNat).toNat : Int) = x.2 % 256 := by rw [t]; omega
  simp only [u8s, encI, List.map_cons, List.map_nil]
  rw [w, w, w, e1, e2, e3]
theorem rmay_any (x : Int × Int) (W : World) :
    Calls Try.prog 18 #[.agg #[.int .i64 x.1, .int .i64 x.2]] W fun e W' => e = .returned (.bool (okI x)) ∧ Grown W W' := by
  obtain ⟨op, a⟩ := x
  unfold okI
  simp only
  by_cases h : 1 ≤ op ∧ op < 42
  · obtain ⟨k, rfl⟩ : ∃ k : Nat, op = k := ⟨op.toNat, by omega⟩
    rw [decide_eq_true h, Bool.true_and]
    exact rmay_yes k a (by omega) (by omega) W
  · rw [decide_eq_false h, Bool.false_and]
    exact rmay_no op a h W
theorem okI_bd {x : Int × Int} (h : okI x = true) : 1 ≤ x.1 ∧ x.1 ≤ 41 ∧ 0 ≤ x.2 ∧ x.2 ≤ 65535 := by
  obtain ⟨op, a⟩ := x
  unfold okI at h
  simp only [Bool.and_eq_true, decide_eq_true_eq] at h
  obtain ⟨⟨h1, h2⟩, h3⟩ := h
  have all : ∀ j : Fin 42, ms j.val ≤ 65535 := by decide +kernel
  have h4 := all ⟨op.toNat, by omega⟩
  simp only [mayB, Bool.and_eq_true, decide_eq_true_eq] at h3
  simp only at h4
  exact ⟨h1, by omega, h3.1, by omega⟩
/-- The bytes so far, k instructions written. -/
def preI (L : List (Int × Int)) (N : List ByteArray) (k : Nat) : List UInt8 := ([88, 82, UInt8.ofNat N.length] ++ N.flatMap encS ++ [UInt8.ofNat L.length]) ++ (L.take k).flatMap encI
theorem preI_succ {L : List (Int × Int)} {N : List ByteArray} {k : Nat} {x : Int × Int} (h : L[k]? = some x) : preI L N (k + 1) = preI L N k ++ encI x := by
  obtain ⟨hi, he⟩ := List.getElem?_eq_some_iff.1 h
  unfold preI
  rw [List.take_succ_eq_append_getElem hi, he]
  simp
theorem preI_len {L : List (Int × Int)} {N : List ByteArray} (k : Nat) : (preI L N k).length ≤ (preI L N 0).length + k * 3 := by
  induction k with
  | zero => omega
  | succ k ih =>
    cases hk : L[k]? with
    | none =>
      have hl : L.length ≤ k := by rw [List.getElem?_eq_none_iff] at hk; exact hk
      have e : preI L N (k + 1) = preI L N k := by
        unfold preI
        rw [List.take_of_length_le (by omega), List.take_of_length_le hl]
      rw [e]
      omega
    | some x =>
      rw [preI_succ hk, List.length_append]
      have : (encI x).length = 3 := rfl
      omega
/-- The bytes so far, k names written. -/
def preN (N : List ByteArray) (k : Nat) : List UInt8 := [88, 82, UInt8.ofNat N.length] ++ (N.take k).flatMap encS
theorem preN_succ {N : List ByteArray} {k : Nat} {s : ByteArray} (h : N[k]? = some s) : preN N (k + 1) = (preN N k ++ [UInt8.ofNat s.size]) ++ s.data.toList := by
  obtain ⟨hi, he⟩ := List.getElem?_eq_some_iff.1 h
  unfold preN
  rw [List.take_succ_eq_append_getElem hi, he]
  simp [encS]
set_option maxRecDepth 20000 in
theorem preN_len {N : List ByteArray} (h : ∀ j s, j < N.length → N[j]? = some s → s.size ≤ 255) (k : Nat) : (preN N k).length ≤ 3 + k * 256 := by
  induction k with
  | zero => simp [preN]
  | succ k ih =>
    cases hk : N[k]? with
    | none =>
      have hl : N.length ≤ k := by rw [List.getElem?_eq_none_iff] at hk; exact hk
      unfold preN at *
      rw [List.take_of_length_le (by omega)]
      rw [List.take_of_length_le (by omega)] at ih
      omega
    | some s =>
      rw [preN_succ hk]
      have h1 := h k s (List.getElem?_eq_some_iff.1 hk).1 hk
      have h2 : s.data.toList.length = s.size := by rw [Array.length_toList]; rfl
      simp only [List.length_append, List.length_cons, List.length_nil]
      omega
theorem ofNat_toNat {n : Nat} (h : n ≤ 255) : ((UInt8.ofNat n).toNat : Int) = n := by
  rw [UInt8.toNat_ofNat']
  omega
end Go.Proofs.Ythjbjbbbbdhcmaa
