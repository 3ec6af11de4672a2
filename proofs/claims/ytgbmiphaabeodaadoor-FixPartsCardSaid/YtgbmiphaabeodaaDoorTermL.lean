/-
  The ids of a set, rising: list of package term; Vars.
-/
import Derived.Test.YtgbmiphaabeodaaDoorTermF
import Derived.Shelf.Spec.TrailingZeros
namespace Go.Proofs.YtgbmiphaabeodaaDoor
open Go.ChangeShapes Go.WideShapes Go.ChangeAt Go.RowKit
set_option linter.unusedVariables false

def Tab (w : World) : Prop := TabAt 0 Lib.deBruijn64tab w
theorem tz_core (x k idx : Nat) (w : World) (hx0 : ((x : Int) == 0) = false)
    (key : IntKind.u64.wrap (bits BinOp.and IntKind.u64 (x : Int) (IntKind.u64.wrap (-(x : Int))) * 285870213051353865) / 288230376151711744 = (idx : Int))
    (hi : idx < 64) (hk : k < 64) (hcell : w.cell? ⟨0, idx, none⟩ = some (.int .u8 k)) :
    Calls Tryd.prog 42 #[.int .u64 x] w fun e w' => e = .returned (.int .i64 k) ∧ w = w' := by
  go_enter Tryd.func42, Tryd.ntmps42
  go_wp2_with (simp only [key])
  go_ret
  exact ⟨rfl, rfl⟩
theorem tz_any (x : Nat) (hx : x < 18446744073709551616) (hx0 : x ≠ 0) (w : World) (hT : Tab w) :
    Calls Tryd.prog 42 #[.int .u64 x] w fun e w' => e = .returned (.int .i64 (Lib.ctz 64 x)) ∧ w = w' := by
  obtain ⟨hlow, hk⟩ := Lib.lowest_bit 64 x hx0 hx
  obtain ⟨hi, htab⟩ := Lib.deBruijn64_at _ hk
  have hcell := hT _ hi
  rw [htab] at hcell
  exact tz_core x _ _ w (by simp; omega) (tz64_key x _ hx hx0 hlow) hi hk hcell

/-! ### The bits of a number, rising -/
def bl (n : Nat) : List Nat := (List.range 64).filter fun i => n.testBit i
theorem mem_bl {n i : Nat} : i ∈ bl n ↔ i < 64 ∧ n.testBit i = true := by simp [bl]
theorem bl_rises (n : Nat) : (bl n).Pairwise (· < ·) := List.Pairwise.filter _ List.pairwise_lt_range
theorem bl_zero : bl 0 = [] := by simp [bl]
/-- The lowest bit goes. -/
theorem less_bit {n k m : Nat} (h : n = 2 ^ k * (2 * m + 1)) (j : Nat) : (n &&& (n - 1)).testBit j = (n.testBit j && decide (j ≠ k)) ∧ n.testBit k = true ∧ (j < k → n.testBit j = false) := by
  have e1 : n = 2 ^ (k + 1) * m + 2 ^ k := by rw [h, Nat.pow_succ, Nat.mul_add, Nat.mul_one, Nat.mul_assoc]
  have hp : 0 < 2 ^ k := Nat.pow_pos (by decide)
  have hlt : 2 ^ k < 2 ^ (k + 1) := Nat.pow_lt_pow_right (by decide) (by omega)
  have e2 : n - 1 = 2 ^ (k + 1) * m + (2 ^ k - 1) := by omega
  have t1 : ∀ j, n.testBit j = if j < k + 1 then (2 ^ k).testBit j else m.testBit (j - (k + 1)) := fun j => by rw [e1, Nat.testBit_two_pow_mul_add _ hlt]
  have t2 : ∀ j, (n - 1).testBit j = if j < k + 1 then (2 ^ k - 1).testBit j else m.testBit (j - (k + 1)) := fun j => by rw [e2, Nat.testBit_two_pow_mul_add _ (by omega)]
  refine ⟨?_, ?_, fun hj => ?_⟩
  · rw [Nat.testBit_and, t1, t2]
    by_cases hj : j < k + 1
    · rw [if_pos hj, if_pos hj, Nat.testBit_two_pow_sub_one, Nat.testBit_two_pow]
      by_cases e : j = k
      · subst e; simp
      · have e' : ¬ k = j := fun h => e h.symm
        simp [e']
    · have e' : j ≠ k := by omega
      rw [if_neg hj, if_neg hj]; simp [e']
  · rw [t1, if_pos (by omega), Nat.testBit_two_pow_self]
  · rw [t1, if_pos (by omega), Nat.testBit_two_pow]
    have e' : ¬ k = j := by omega
    simp [e']
theorem filter_split (k : Nat) (hk : k < 64) (p : Nat → Bool) (hp : p k = true) (hlow : ∀ j, j < k → p j = false) : (List.range 64).filter p = k :: (List.range 64).filter (fun i => p i && decide (i ≠ k)) := by
  have e : List.range 64 = List.range k ++ k :: (List.range (63 - k)).map (· + (k + 1)) := by
    refine List.ext_getElem? fun i => ?_
    by_cases h1 : i < k
    · rw [List.getElem?_append_left (by simpa using h1), List.getElem?_range (by omega), List.getElem?_range h1]
    · rw [List.getElem?_append_right (by simpa using h1)]
      by_cases h2 : i = k
      · subst h2; simp [hk]
      · obtain ⟨d, rfl⟩ : ∃ d, i = k + 1 + d := ⟨i - k - 1, by omega⟩
        rw [show k + 1 + d - (List.range k).length = d + 1 by simp; omega]
        simp only [List.getElem?_cons_succ, List.getElem?_map]
        by_cases h3 : d < 63 - k
        · rw [List.getElem?_range (by omega), List.getElem?_range h3]; simp; omega
        · rw [List.getElem?_eq_none (by simp; omega), List.getElem?_eq_none (by simp; omega)]; rfl
  rw [e, List.filter_append, List.filter_append]
  have z1 : (List.range k).filter p = [] := List.filter_eq_nil_iff.2 fun j hj => by rw [hlow j (by simpa using hj)]; simp
  have z2 : (List.range k).filter (fun i => p i && decide (i ≠ k)) = [] := List.filter_eq_nil_iff.2 fun j hj => by rw [hlow j (by simpa using hj)]; simp
  rw [z1, z2, List.nil_append, List.nil_append, List.filter_cons_of_pos hp, List.filter_cons_of_neg (by simp)]
  congr 1
  refine List.filter_congr fun j hj => ?_
  obtain ⟨d, _, rfl⟩ := List.mem_map.1 hj
  have : d + (k + 1) ≠ k := by omega
  simp [this]
theorem bl_step {n : Nat} (hx : n < 18446744073709551616) (h0 : n ≠ 0) : Lib.ctz 64 n < 64 ∧ bl n = Lib.ctz 64 n :: bl (n &&& (n - 1)) := by
  obtain ⟨m, hm, hk⟩ := Lib.ctzFrom_spec 64 n (by omega) hx
  have e : Lib.ctz 64 n = Lib.ctzFrom 64 n := by unfold Lib.ctz; rw [if_neg h0]
  rw [e]
  refine ⟨hk, ?_⟩
  have key := fun j => less_bit hm j
  unfold bl
  rw [filter_split _ hk (fun i => n.testBit i) (key 0).2.1 (fun j hj => (key j).2.2 hj)]
  congr 1
  exact List.filter_congr fun j _ => (key j).1.symm
/-! ### list and Vars -/
theorem info3 : (Tryd.prog.info? 3).map (fun i => (i.zero, i.size, i.bytes)) = some (some (.int .i64 0), 1, 8) := by kernel_rfl
def ints (l : List Nat) : List Value := l.map fun i => Value.int .i64 ((i : Nat) : Int)
structure ListRel (w : World) (n0 n : Nat) (l : Value) (wr : World) : Prop where
  lt : n < 18446744073709551616
  acc : ∃ acc : List Nat, acc ++ bl n = bl n0 ∧ wr.ownsRow w.heap.size 3 1 l acc.length (ints acc)
  below : Below w.heap.size w wr
theorem bl_length (n : Nat) : (bl n).length ≤ 64 := by
  have := List.length_filter_le (fun i => n.testBit i) (List.range 64); simpa [bl] using this
def SliceOf (w : World) (l : List Nat) (e : Ending) (w' : World) : Prop := ∃ A cap, e = .returned (.slice A l.length cap) ∧ w'.ownsRow w.heap.size 3 1 (.slice A l.length cap) l.length (ints l) ∧ Below w.heap.size w w'
theorem row_form {w : World} {base : Nat} {e : TypeId} {size n : Nat} {v : Value} {xs : List Value} (h : w.ownsRow base e size v n xs) : ∃ A cap, v = .slice A n cap := by
  rcases h.2 with ⟨e, h0⟩ | ⟨g, cap, cur, e, _⟩
  · exact ⟨none, 0, by rw [h0]; exact e⟩
  · exact ⟨_, cap, e⟩
theorem list_any (n0 : Nat) (hn : n0 < 18446744073709551616) (w : World) (hT : Tab w) (h0 : 0 < w.heap.size) :
    Calls Tryd.prog 26 #[.int .u64 n0] w (SliceOf w (bl n0)) := by
  have HT := Lib.hid hT
  have HN := Lib.hid hn
  clear hT hn
  obtain ⟨i0, hi0, hz0, hz1, hz2⟩ := info_parts info3
  have HI := Lib.hid (And.intro hi0 (And.intro hz0 (And.intro hz1 hz2)))
  clear hi0 hz0 hz1 hz2
  go_enter Tryd.func26, Tryd.ntmps26
  go_wp2_with fail
  go_loopw [0, 3] (fun s l wr => ∃ n : Nat, s = .int .u64 n ∧ ListRel w n0 n l wr) (fun s _ _ => (intOf s).toNat)
  case atStart => exact ⟨n0, rfl, HN.out, ⟨[], rfl, rfl, .inl ⟨rfl, rfl⟩⟩, Below.refl _ _⟩
  case round =>
    obtain ⟨n, rfl, hrel⟩ := hrel
    obtain ⟨acc, hacc, hown⟩ := hrel.acc
    obtain ⟨A, cap, rfl⟩ := row_form hown
    have HB := Lib.hid hrel.below
    have HOWN := Lib.hid hown
    have HACC := Lib.hid hacc
    have hlen : acc.length ≤ 64 := by have := congrArg List.length hacc; rw [List.length_append] at this; have := bl_length n0; omega
    by_cases hz : n = 0
    · subst hz
      have e : acc = bl n0 := by rw [← hacc, bl_zero, List.append_nil]
      clear hrel hacc hown
      go_wp2
      go_ret
      subst e
      exact ⟨A, cap, rfl, HOWN.out, HB.out⟩
    · obtain ⟨hk, hstep⟩ := bl_step hrel.lt hz
      have HTZ := Lib.hid (tz_any n hrel.lt hz wr (fun j hj => (HB.out.cell (p := ⟨0, j, none⟩) h0).trans (HT.out j hj)))
      have hb0 : ((n : Int) != 0) = true := by simpa using hz
      have hb1 : (1 : Int) ≤ (n : Int) := by omega
      have HLT := Lib.hid hrel.lt
      have hand : bits .and .u64 (n : Int) ((n : Int) - 1) = ((n &&& (n - 1) : Nat) : Int) := by
        rw [show (n : Int) - 1 = ((n - 1 : Nat) : Int) by omega]
        exact u64_and_nat n (n - 1) hrel.lt (by have := hrel.lt; omega)
      have hwr : IntKind.u64.wrap ((n : Int) - 1) = (n : Int) - 1 := by have := hrel.lt; rw [IntKind.wrap_u64]; omega
      have hless : n &&& (n - 1) < n := by have := Nat.and_le_right (n := n) (m := n - 1); omega
      have HS := Lib.hid hstep
      generalize Lib.ctz 64 n = k at hk HTZ HS
      generalize n &&& (n - 1) = n' at hand HS hless
      have HSZ : Hid (w.heap.size ≤ wr.heap.size) := HB.out.size
      clear hrel hacc hown hz hstep
      go_wp2_with (first | (go_at_call 42; refine HTZ.out.mono ?_; rintro e w' ⟨rfl, rfl⟩) | (at_builtin; refine wpList_append_lies _ rfl _ _ _ rfl w.heap.size 3 i0 _ 1 8 Tryd.underlying31 HI.out.1 HI.out.2.1 HI.out.2.2.1 HI.out.2.2.2 rfl (by omega) (.slice A acc.length cap) acc.length (ints acc) rfl (HOWN.out.alloc _) ⟨wr.heap.size, 0, none⟩ 1 1 [.int .i64 k] rfl rfl (World.news_of_block (cs := #[.int .i64 k]) (t := 3) (fr := (0, 0)) (heap_alloc_new wr _)) (by simp [Value.oneCell']) (by omega) (by unfold maxLen; omega) (by omega) (by have := HSZ.out; simp; omega) (wr.heap.size + 1) (by simp) ?_; intro g cap' w1 hown1 hgrow hat hg1; have HO1 := Lib.hid hown1; have HG1 := Lib.hid hgrow; clear hown1 hgrow))
      go_roundw
      case rel =>
        refine ⟨n', rfl, ⟨by have := HLT.out; omega, ⟨acc ++ [k], ?_, ?_⟩, ?_⟩⟩
        · rw [List.append_assoc, List.singleton_append, ← HS.out]; exact HACC.out
        · have := HO1.out
          rw [show (acc ++ [k]).length = acc.length + 1 by simp, show ints (acc ++ [k]) = ints acc ++ [.int .i64 k] by simp [ints]]
          exact this
        · refine (HB.out.alloc HSZ.out _).grown HG1.out (by have := HSZ.out; simp; omega) (fun g' hg' => ?_)
          rcases HOWN.out.2 with ⟨e, _⟩ | ⟨g2, c2, cur, e, hge, _⟩
          · rw [e] at hg'; cases hg'
          · rw [e] at hg'
            have : g2 = g' := by simpa [Value.ownBlock] using hg'
            omega
      case measure => simp [intOf]; omega
/-- Vars: the ids that stand in a term, rising. -/
theorem vars_yes (w : World) (ab : Nat) (ns : List Nd) (foot : Nat → Prop) (x : Int) (h : Ar w ab ns foot) (hx : isT ns x) (hT : Tab w) :
    Calls Tryd.prog 9 #[ptr ab, .int .i64 x] w (SliceOf w (bl (Iv ns x))) := by
  have HY := Lib.hid (has_yes w ab ns foot x h hx)
  have h1 := hx.1
  have h2 := hx.2
  obtain ⟨j, rfl⟩ : ∃ j : Nat, x = (j : Int) + 1 := ⟨(x - 1).toNat, by omega⟩
  have hsz := h.sz
  have hlt64 : Iv ns ((j : Int) + 1) < 18446744073709551616 := Iv_lt h.wf _ _ (Int.self_le_toNat _)
  obtain ⟨nv, iv, mv, vs, hvars, hat⟩ := h
  have hpos : 0 < w.heap.size := by have := hat.blk.lt; omega
  have HL := Lib.hid (list_any (Iv ns ((j : Int) + 1)) hlt64 w hT hpos)
  have c1 : w.cell? ⟨ab, 1, none⟩ = some iv := hat.blk.cell 1
  have hjl : j < ns.length := by omega
  obtain ⟨g, icap, rfl, hg, hcap, hcm, hcell⟩ := row_id hat.irow hjl
  unfold maxLen at hcm
  generalize Iv ns ((j : Int) + 1) = n at *
  clear hvars hat hT hx hlt64
  go_enter Tryd.func9, Tryd.ntmps9
  go_wp2_with (first | (go_at_call 25; refine HY.out.mono ?_; rintro e w' ⟨rfl, rfl⟩) | (go_at_call 26; refine HL.out.mono ?_; rintro e w' ⟨A, cap, rfl, hp⟩))
  go_ret
  exact ⟨A, cap, rfl, hp⟩
end Go.Proofs.YtgbmiphaabeodaaDoor
