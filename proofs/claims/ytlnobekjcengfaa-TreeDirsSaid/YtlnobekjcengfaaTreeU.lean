/-
  What the law TreePlays does, on both trees.
-/
import Derived.Test.YtlnobekjcengfaaTreeT
import Derived.Deep.RegionLaw
namespace Go.Proofs.Ytlnobekjcengfaa
open Go.ChangeShapes Go.WideShapes Go.ChangeAt Go.RowKit Go.Joins
set_option linter.unusedVariables false
set_option linter.unusedSimpArgs false

/-- A deed, as the law has it. -/
structure Dd where
  k : Int
  p : ByteArray
  q : ByteArray
  d : Bool
def dC (d : Dd) : Array Value := #[.int .i64 d.k, .string d.p, .string d.q, .bool d.d]
/-- What a deed makes of a tree. -/
def doT (s : St) (d : Dd) : St :=
  if d.k = 1 ∨ d.k = 2 then (makeT s d.p.data.toList d.d).2 else if d.k = 3 ∨ d.k = 4 then (dropT s d.p.data.toList d.d).2 else if d.k = 5 ∨ d.k = 6 then (moveT s d.p.data.toList d.q.data.toList).2 else s
theorem drop_nx (s : St) (p : List UInt8) (d : Bool) : (dropT s p d).2.nx = s.nx := by unfold dropT; split <;> (try split) <;> (try split) <;> (try split) <;> rfl
theorem move_nx (s : St) (a b : List UInt8) : (moveT s a b).2.nx = s.nx := by
  unfold moveT
  split
  · split
    · rfl
    · split
      · split
        · split
          · rfl
          · cases look s.l b with
            | none => rfl
            | some i => simp only; split <;> rfl
        · rfl
      · rfl
  · rfl
theorem make_nx (s : St) (p : List UInt8) (d : Bool) : (makeT s p d).2.nx = s.nx ∨ (makeT s p d).2.nx = s.nx + 1 := by
  unfold makeT
  split
  · split
    · cases look s.l p with
      | some i => exact .inl rfl
      | none => simp only; split
                · exact .inl rfl
                · split
                  · exact .inl rfl
                  · exact .inr rfl
    · exact .inl rfl
  · exact .inl rfl
theorem do_nx (s : St) (d : Dd) : s.nx ≤ (doT s d).nx ∧ (doT s d).nx ≤ s.nx + 1 := by
  unfold doT
  split
  · rcases make_nx s d.p.data.toList d.d with h | h <;> omega
  · split
    · rw [drop_nx]; omega
    · split
      · rw [move_nx]; omega
      · omega
theorem do_ok {s : St} (h : Ok s.l) (d : Dd) : Ok (doT s d).l := by
  unfold doT
  split
  · exact make_ok h _ _
  · split
    · exact drop_ok h _ _
    · split
      · exact move_ok h _ _
      · exact h
set_option maxRecDepth 100000 in
set_option maxHeartbeats 8000000 in
theorem do_any {T : TP} (C : TreeC T) {W w : World} {v : Value} {g : Nat} {s : St} (h : Tw T W w v g s s []) (hok : Ok s.l) (d : Dd) (hp : d.p.size ≤ 140737488351232) (hq : d.q.size ≤ 140737488351232) (h0 : 0 ≤ s.nx) (h1 : s.nx ≤ 4611686018427387904) :
    Calls Try.prog 12 #[v, .pointer (some ⟨g, 0, none⟩), .agg (dC d)] w fun e w' => e = .returned (.bool true) ∧ Tw T W w' v g (doT s d) (doT s d) [] := by
  obtain ⟨kk, p, q, dd⟩ := d
  have hl := h.size
  have HT := Lib.hid (h.box C (.cells #[.int .i64 kk, .string p, .string q, .bool dd] 35))
  have hcell : ∀ w' s1 s2, Tw T W w' v g s1 s2 [(w.heap.size, .cells #[.int .i64 kk, .string p, .string q, .bool dd] 35)] → w'.cell? ⟨w.heap.size, 0, none⟩ = some (.int .i64 kk) ∧ w'.cell? ⟨w.heap.size, 1, none⟩ = some (.string p) ∧ w'.cell? ⟨w.heap.size, 2, none⟩ = some (.string q) ∧ w'.cell? ⟨w.heap.size, 3, none⟩ = some (.bool dd) := fun w' s1 s2 t =>
    have hh : Has w' w.heap.size 35 #[.int .i64 kk, .string p, .string q, .bool dd] := t.keep (List.mem_singleton.2 rfl)
    ⟨hh.cell 0, hh.cell 1, hh.cell 2, hh.cell 3⟩
  obtain ⟨c0, c1, c2, c3⟩ := hcell _ _ _ HT.out
  clear h
  unfold dC doT
  simp only at hp hq ⊢
  by_cases e0 : kk = 0
  · subst e0
    have A1 := tt_find C HT.out hok hl p hp
    obtain ⟨r, hr⟩ : ∃ r, r = findT s.l p.data.toList := ⟨_, rfl⟩
    rw [← hr] at A1
    have HR := Lib.hid hr
    clear hr
    obtain ⟨r1, r2, r3⟩ := r
    simp only [fV] at A1
    go_enter Try.func12, Try.ntmps12
    go_wp2_with (first
      | (go_at_call 20; with_reducible refine A1.mono ?_; rintro e wa ⟨rfl, HA⟩; obtain ⟨k0, k1, k2, k3⟩ := hcell _ _ _ HA; have A2 := tm_find C HA p hp; rw [← HR.out] at A2; simp only [fV] at A2)
      | (go_at_call 24; with_reducible refine A2.mono ?_; rintro e wb ⟨rfl, HB⟩))
    go_ret
    exact ⟨rfl, HB.less⟩
  by_cases e1 : kk = 1
  · subst e1
    have A1 := tt_make C HT.out hok hl p hp dd h0 h1
    have hif : (if (1 : Int) = 1 ∨ (1 : Int) = 2 then (makeT s p.data.toList dd).2 else if (1 : Int) = 3 ∨ (1 : Int) = 4 then (dropT s p.data.toList dd).2 else if (1 : Int) = 5 ∨ (1 : Int) = 6 then (moveT s p.data.toList q.data.toList).2 else s) = (makeT s p.data.toList dd).2 := if_pos (by decide)
    rw [hif]
    clear hif
    obtain ⟨r, hr⟩ : ∃ r, r = makeT s p.data.toList dd := ⟨_, rfl⟩
    rw [← hr] at A1 ⊢
    have HR := Lib.hid hr
    clear hr
    obtain ⟨⟨r1, r2⟩, s'⟩ := r
    simp only [mV] at A1
    go_enter Try.func12, Try.ntmps12
    go_wp2_with (first
      | (go_at_call 16; with_reducible refine A1.mono ?_; rintro e wa ⟨rfl, HA⟩; obtain ⟨k0, k1, k2, k3⟩ := hcell _ _ _ HA; have A2 := tm_make C HA p hp dd h0 h1; rw [← HR.out] at A2; simp only [mV] at A2)
      | (go_at_call 25; with_reducible refine A2.mono ?_; rintro e wb ⟨rfl, HB⟩))
    go_ret
    exact ⟨rfl, HB.less⟩
  by_cases e2 : kk = 2
  · subst e2
    have A1 := tt_make C HT.out hok hl p hp dd h0 h1
    have hif : (if (2 : Int) = 1 ∨ (2 : Int) = 2 then (makeT s p.data.toList dd).2 else if (2 : Int) = 3 ∨ (2 : Int) = 4 then (dropT s p.data.toList dd).2 else if (2 : Int) = 5 ∨ (2 : Int) = 6 then (moveT s p.data.toList q.data.toList).2 else s) = (makeT s p.data.toList dd).2 := if_pos (by decide)
    rw [hif]
    clear hif
    obtain ⟨r, hr⟩ : ∃ r, r = makeT s p.data.toList dd := ⟨_, rfl⟩
    rw [← hr] at A1 ⊢
    have HR := Lib.hid hr
    clear hr
    obtain ⟨⟨r1, r2⟩, s'⟩ := r
    simp only [mV] at A1
    go_enter Try.func12, Try.ntmps12
    go_wp2_with (first
      | (go_at_call 16; with_reducible refine A1.mono ?_; rintro e wa ⟨rfl, HA⟩; obtain ⟨k0, k1, k2, k3⟩ := hcell _ _ _ HA; have A2 := tm_make C HA p hp dd h0 h1; rw [← HR.out] at A2; simp only [mV] at A2)
      | (go_at_call 25; with_reducible refine A2.mono ?_; rintro e wb ⟨rfl, HB⟩))
    go_ret
    exact ⟨rfl, HB.less⟩
  by_cases e3 : kk = 3
  · subst e3
    have hif : (if (3 : Int) = 1 ∨ (3 : Int) = 2 then (makeT s p.data.toList dd).2 else if (3 : Int) = 3 ∨ (3 : Int) = 4 then (dropT s p.data.toList dd).2 else if (3 : Int) = 5 ∨ (3 : Int) = 6 then (moveT s p.data.toList q.data.toList).2 else s) = (dropT s p.data.toList dd).2 := by rw [if_neg (by decide), if_pos (by decide)]
    rw [hif]
    clear hif
    have HT0 := Lib.hid (HT.out.on C (Gw.refl _).drew)
    obtain ⟨d0, d1, d2, d3⟩ := hcell _ _ _ HT0.out
    have A1 := tt_drop C HT0.out hok hl p hp dd
    have B1 := tm_drop C HT0.out hok p hp dd
    obtain ⟨r, hr⟩ : ∃ r, r = dropT s p.data.toList dd := ⟨_, rfl⟩
    rw [← hr] at A1 B1 ⊢
    have HR := Lib.hid hr
    clear hr
    obtain ⟨r1, s'⟩ := r
    go_enter Try.func12, Try.ntmps12
    go_upto_region 13 with fail
    go_region_law (first
      | (rw [if_pos (by rfl)]; go_simp; go_at_call 17; with_reducible refine A1.mono ?_; rintro e wa ⟨rfl, HA⟩; obtain ⟨k0, k1, k2, k3⟩ := hcell _ _ _ HA; have B2 := tm_drop C HA hok p hp dd; rw [← HR.out] at B2)
      | (rw [if_pos (by rfl)]; go_simp; go_at_call 26; with_reducible refine B1.mono ?_; rintro e wb ⟨rfl, HB⟩; obtain ⟨k0, k1, k2, k3⟩ := hcell _ _ _ HB; have A2 := tt_drop C HB hok hl p hp dd; rw [← HR.out] at A2)
      | (rw [if_pos (by rfl)]; go_simp; go_at_call 26; with_reducible refine B2.mono ?_; rintro e wc ⟨rfl, HE⟩)
      | (rw [if_pos (by rfl)]; go_simp; go_at_call 17; with_reducible refine A2.mono ?_; rintro e wc ⟨rfl, HE⟩))
    all_goals (
      go_wp2
      go_ret
      exact ⟨by simp, HE.less⟩)
  by_cases e4 : kk = 4
  · subst e4
    have hif : (if (4 : Int) = 1 ∨ (4 : Int) = 2 then (makeT s p.data.toList dd).2 else if (4 : Int) = 3 ∨ (4 : Int) = 4 then (dropT s p.data.toList dd).2 else if (4 : Int) = 5 ∨ (4 : Int) = 6 then (moveT s p.data.toList q.data.toList).2 else s) = (dropT s p.data.toList dd).2 := by rw [if_neg (by decide), if_pos (by decide)]
    rw [hif]
    clear hif
    have HT0 := Lib.hid (HT.out.on C (Gw.refl _).drew)
    obtain ⟨d0, d1, d2, d3⟩ := hcell _ _ _ HT0.out
    have A1 := tt_drop C HT0.out hok hl p hp dd
    have B1 := tm_drop C HT0.out hok p hp dd
    obtain ⟨r, hr⟩ : ∃ r, r = dropT s p.data.toList dd := ⟨_, rfl⟩
    rw [← hr] at A1 B1 ⊢
    have HR := Lib.hid hr
    clear hr
    obtain ⟨r1, s'⟩ := r
    go_enter Try.func12, Try.ntmps12
    go_upto_region 13 with fail
    go_region_law (first
      | (rw [if_pos (by rfl)]; go_simp; go_at_call 17; with_reducible refine A1.mono ?_; rintro e wa ⟨rfl, HA⟩; obtain ⟨k0, k1, k2, k3⟩ := hcell _ _ _ HA; have B2 := tm_drop C HA hok p hp dd; rw [← HR.out] at B2)
      | (rw [if_pos (by rfl)]; go_simp; go_at_call 26; with_reducible refine B1.mono ?_; rintro e wb ⟨rfl, HB⟩; obtain ⟨k0, k1, k2, k3⟩ := hcell _ _ _ HB; have A2 := tt_drop C HB hok hl p hp dd; rw [← HR.out] at A2)
      | (rw [if_pos (by rfl)]; go_simp; go_at_call 26; with_reducible refine B2.mono ?_; rintro e wc ⟨rfl, HE⟩)
      | (rw [if_pos (by rfl)]; go_simp; go_at_call 17; with_reducible refine A2.mono ?_; rintro e wc ⟨rfl, HE⟩))
    all_goals (
      go_wp2
      go_ret
      exact ⟨by simp, HE.less⟩)
  by_cases e5 : kk = 5
  · subst e5
    have A1 := tt_move C HT.out hok hl p q hp hq
    have hif : (if (5 : Int) = 1 ∨ (5 : Int) = 2 then (makeT s p.data.toList dd).2 else if (5 : Int) = 3 ∨ (5 : Int) = 4 then (dropT s p.data.toList dd).2 else if (5 : Int) = 5 ∨ (5 : Int) = 6 then (moveT s p.data.toList q.data.toList).2 else s) = (moveT s p.data.toList q.data.toList).2 := by rw [if_neg (by decide), if_neg (by decide), if_pos (by decide)]
    rw [hif]
    clear hif
    obtain ⟨r, hr⟩ : ∃ r, r = moveT s p.data.toList q.data.toList := ⟨_, rfl⟩
    rw [← hr] at A1 ⊢
    have HR := Lib.hid hr
    clear hr
    obtain ⟨⟨r1, r2⟩, s'⟩ := r
    simp only [mV] at A1
    go_enter Try.func12, Try.ntmps12
    go_wp2_with (first
      | (go_at_call 18; with_reducible refine A1.mono ?_; rintro e wa ⟨rfl, HA⟩; obtain ⟨k0, k1, k2, k3⟩ := hcell _ _ _ HA; have A2 := tm_move C HA p q hp hq; rw [← HR.out] at A2; simp only [mV] at A2)
      | (go_at_call 27; with_reducible refine A2.mono ?_; rintro e wb ⟨rfl, HB⟩))
    go_ret
    exact ⟨rfl, HB.less⟩
  by_cases e6 : kk = 6
  · subst e6
    have A1 := tt_move C HT.out hok hl p q hp hq
    have hif : (if (6 : Int) = 1 ∨ (6 : Int) = 2 then (makeT s p.data.toList dd).2 else if (6 : Int) = 3 ∨ (6 : Int) = 4 then (dropT s p.data.toList dd).2 else if (6 : Int) = 5 ∨ (6 : Int) = 6 then (moveT s p.data.toList q.data.toList).2 else s) = (moveT s p.data.toList q.data.toList).2 := by rw [if_neg (by decide), if_neg (by decide), if_pos (by decide)]
    rw [hif]
    clear hif
    obtain ⟨r, hr⟩ : ∃ r, r = moveT s p.data.toList q.data.toList := ⟨_, rfl⟩
    rw [← hr] at A1 ⊢
    have HR := Lib.hid hr
    clear hr
    obtain ⟨⟨r1, r2⟩, s'⟩ := r
    simp only [mV] at A1
    go_enter Try.func12, Try.ntmps12
    go_wp2_with (first
      | (go_at_call 18; with_reducible refine A1.mono ?_; rintro e wa ⟨rfl, HA⟩; obtain ⟨k0, k1, k2, k3⟩ := hcell _ _ _ HA; have A2 := tm_move C HA p q hp hq; rw [← HR.out] at A2; simp only [mV] at A2)
      | (go_at_call 27; with_reducible refine A2.mono ?_; rintro e wb ⟨rfl, HB⟩))
    go_ret
    exact ⟨rfl, HB.less⟩
  have hif : (if kk = 1 ∨ kk = 2 then (makeT s p.data.toList dd).2 else if kk = 3 ∨ kk = 4 then (dropT s p.data.toList dd).2 else if kk = 5 ∨ kk = 6 then (moveT s p.data.toList q.data.toList).2 else s) = s := by rw [if_neg (by omega), if_neg (by omega), if_neg (by omega)]
  rw [hif]
  clear hif
  have HT0 := Lib.hid (HT.out.on C (Gw.refl _).drew)
  obtain ⟨d0, d1, d2, d3⟩ := hcell _ _ _ HT0.out
  have A1 := tt_many C HT0.out hok hl p hp
  have B1 := tm_many C HT0.out hok p hp
  obtain ⟨r, hr⟩ : ∃ r, r = manyT s.l p.data.toList := ⟨_, rfl⟩
  rw [← hr] at A1 B1
  have HR := Lib.hid hr
  clear hr
  have n0 : (kk == 0) = false := beq_false_of_ne e0
  have n1 : (kk == 1) = false := beq_false_of_ne e1
  have n2 : (kk == 2) = false := beq_false_of_ne e2
  have n3 : (kk == 3) = false := beq_false_of_ne e3
  have n4 : (kk == 4) = false := beq_false_of_ne e4
  have n5 : (kk == 5) = false := beq_false_of_ne e5
  have n6 : (kk == 6) = false := beq_false_of_ne e6
  go_enter Try.func12, Try.ntmps12
  go_upto_region 19 with fail
  go_region_law (first
    | (rw [if_pos (by rfl)]; go_simp; go_at_call 19; with_reducible refine A1.mono ?_; rintro e wa ⟨rfl, HA⟩; obtain ⟨k0, k1, k2, k3⟩ := hcell _ _ _ HA; have B2 := tm_many C HA hok p hp; rw [← HR.out] at B2)
    | (rw [if_pos (by rfl)]; go_simp; go_at_call 28; with_reducible refine B1.mono ?_; rintro e wb ⟨rfl, HB⟩; obtain ⟨k0, k1, k2, k3⟩ := hcell _ _ _ HB; have A2 := tt_many C HB hok hl p hp; rw [← HR.out] at A2)
    | (rw [if_pos (by rfl)]; go_simp; go_at_call 28; with_reducible refine B2.mono ?_; rintro e wc ⟨rfl, HE⟩)
    | (rw [if_pos (by rfl)]; go_simp; go_at_call 19; with_reducible refine A2.mono ?_; rintro e wc ⟨rfl, HE⟩))
  all_goals (
    go_wp2
    go_ret
    exact ⟨by first | rfl | go_simp | simp, HE.less⟩)
end Go.Proofs.Ytlnobekjcengfaa
