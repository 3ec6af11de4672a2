/-
  Parts of the proof, joined: DpllSo, DpllO2, DpllLe.
-/
import Derived.Test.YtpmdnbdmocdngaaGreatMh25
import Derived.Test.YtpmdnbdmocdngaaGreatMh16
import Derived.Test.YtpmdnbdmocdngaaGreatMh24

namespace Go.Proofs.YtpmdnbdmocdngaaGreat
open Go.ChangeShapes Go.WideShapes Go.ChangeAt Go.RowKit
set_option linter.unusedVariables false
set_option linter.unusedSimpArgs false

def SoPost (B : Nat) (τ : Nat → Nat) (w : World) (p n : Nat) (d : Sd) (g cap z : Nat) (tl : List Nat) (e : Ending) (w' : World) : Prop :=
  e = .returned (.slice (some ⟨g, 0, none⟩) ((kp d tl).length + 1) cap) ∧ Sr B τ w' p n d ∧ RowN τ 0 w' 138 1 (.slice (some ⟨g, 0, none⟩) ((kp d tl).length + 1) cap) ((kp d tl).length + 1) (n32 (z :: kp d tl)) ∧ Stk g w w'
section
variable {B : Nat} {τ : Nat → Nat} {w wr : World} {p n g cap z j : Nat} {d : Sd} {tl N : List Nat}
/-- Less of a row counts. -/
theorem RowN.less {r m m' : Nat} {e : TypeId} {xs ys : List Value} (h : RowN τ r w e 1 (.slice (some ⟨g, 0, none⟩) m cap) m xs) (hm : m' ≤ m) (hy : ys = xs.take m') : RowN τ r w e 1 (.slice (some ⟨g, 0, none⟩) m' cap) m' ys := by
  refine ⟨⟨?_, ?_⟩, fun b hb => h.2 b (by simpa [Value.ownBlock] using hb)⟩
  · rw [hy, List.length_take, h.1.1]; omega
  · rcases h.1.2 with ⟨h0, _⟩ | ⟨g', c', cur, h0, hb, hg, h1, h2, h3, h4⟩
    · cases h0
    · injection h0 with a b c
      subst c
      refine .inr ⟨g', cap, cur, by rw [a], hb, hg, by omega, h2, h3, ?_⟩
      rw [hy, ← h4, List.take_take, Nat.mul_one, Nat.mul_one, Nat.min_eq_left (by omega)]
/-- What is written over itself stays. -/
theorem sets_same {α : Type} (xs : List α) (o k : Nat) (h : o + k ≤ xs.length) : sets xs o ((xs.drop o).take k) = xs := by
  have hl : ((xs.drop o).take k).length = k := by rw [List.length_take, List.length_drop]; omega
  rw [sets_eq _ _ _ (by rw [hl]; exact h), hl, List.append_assoc, ← List.drop_drop, List.take_append_drop, List.take_append_drop]
set_option maxHeartbeats 3200000 in
set_option maxRecDepth 4000 in
theorem shorter_any (h : Sr B τ w p n d) (L : Len n d) (hr : RowN τ 0 w 138 1 (.slice (some ⟨g, 0, none⟩) (tl.length + 1) cap) (tl.length + 1) (n32 (z :: tl))) (hmx : tl.length ≤ 200000) (hls : ∀ l ∈ tl, NdOk n d l) :
    Calls Tryz.prog 128 #[ptr p, .slice (some ⟨g, 0, none⟩) (tl.length + 1) cap] w (SoPost B τ w p n d g cap z tl) := by
  have hcap : tl.length + 1 ≤ cap ∧ cap ≤ 9223372036854775807 := by
    rcases hr.at with ⟨_, h1⟩ | ⟨g', cap', cur, h0, hb, h1, h2, h3, h4⟩
    · omega
    · injection h0 with _ _ h5; subst h5; exact ⟨h1, h2⟩
  have hc1 := hcap.1
  have hc2 := hcap.2
  have zp := h.plt
  cases hany : tl.any (ndl d) with
  | true =>
    have hne : tl ≠ [] := fun e => by rw [e] at hany; cases hany
    have hl0 : 0 < tl.length := List.length_pos_iff.2 hne
    have CD := Lib.hid (fun (W : World) (b : Below w.heap.size w W) => ndldelete_any (h.below b) L (hr.stp (Stp.of_below τ b)) hmx hls hany)
    clear h L hr hls hcap hany hne
    go_enter Tryz.func128, Tryz.ntmps128
    have n1 : ¬ cap - 1 = 0 := by omega
    have n2 : ¬ cap = 1 := by omega
    have b1 : (1 : Int) ≤ (cap : Int) := by omega
    have b2 : (1 : Int) ≤ (tl.length : Int) + 1 := by omega
    obtain ⟨i0, hi0, hz0, hz1, hz2⟩ := info_parts infoLit
    have HI := Lib.hid (show _ ∧ _ ∧ _ ∧ _ from ⟨hi0, hz0, hz1, hz2⟩)
    clear hi0 hz0 hz1 hz2
    obtain ⟨k, hk⟩ : ∃ k, (kp d tl).length = k := ⟨_, rfl⟩
    have hkl : k ≤ tl.length := by rw [← hk]; exact kp_len d tl
    -- what there is behind DeleteFunc
    have HD := Lib.hid (show ∀ (W W' : World) (e : Ending), Below w.heap.size w W → DfPost B τ W p n d g cap z tl e W' → e = .returned (.slice (some ⟨g, 1, none⟩) k (cap - 1)) ∧ (∀ (j : Nat) (u : Value), (n32 (kp d tl))[j]? = some u → W'.cell? ⟨g, 1 + j, none⟩ = some u) ∧ (∀ j, W'.frozen? ⟨g, j, none⟩ = false) ∧ SoPost B τ w p n d g cap z tl (.returned (.slice (some ⟨g, 0, none⟩) (1 + k) cap)) (W'.setCells g 1 (n32 (kp d tl))) from fun W W' e b hd => by
      obtain ⟨rest, rfl, hlen, hs, hrow, hst⟩ := hd
      have hnl : (n32 (z :: (kp d tl ++ rest))).length = tl.length + 1 := by show ((z :: (kp d tl ++ rest)).map _).length = _; rw [List.length_map, List.length_cons, hlen]
      have hg : τ g = 0 := hrow.2 g rfl
      have hcell : ∀ (j : Nat) (u : Value), (n32 (kp d tl))[j]? = some u → W'.cell? ⟨g, 1 + j, none⟩ = some u := fun j u hu => hrow.cell (by
        show (n32 (z :: (kp d tl ++ rest)))[1 + j]? = _
        rw [Nat.add_comm]
        have hj := (List.getElem?_eq_some_iff.1 hu).1
        simp only [n32, List.length_map] at hj
        simp only [n32, List.map_cons, List.map_append, List.getElem?_cons_succ]
        rw [List.getElem?_append_left (by rw [List.length_map]; exact hj)]
        exact hu)
      have hnews : n32 (kp d tl) = ((n32 (z :: (kp d tl ++ rest))).drop 1).take k := by
        have : (n32 (z :: (kp d tl ++ rest))).drop 1 = n32 (kp d tl) ++ n32 rest := by simp [n32]
        rw [this, List.take_append_of_le_length (by simp [n32, hk]), List.take_of_length_le (by simp [n32, hk])]
      refine ⟨by rw [hk], hcell, ?_, ?_⟩
      · rcases hrow.at with ⟨_, h1⟩ | ⟨g', cap', cur, h0, hb, _⟩
        · omega
        · injection h0 with h0 _ _; injection h0 with h0; injection h0 with h0; subst h0; exact hb.free
      · have hst2 := step_cells (w := W') hg (n32 (kp d tl)) 1
        have hr2 := hrow.stores (n32 (kp d tl)) 1 _ _ (by rw [show (n32 (kp d tl)).length = k by simp [n32, hk]]; omega)
        rw [hnews, sets_same _ 1 k (by rw [hnl]; omega), ← hnews] at hr2
        refine ⟨by rw [hk, Nat.add_comm], ?_, ?_, ((Stk.of_below b).trans hst).trans (Stk.cells _ _ _)⟩
        · obtain ⟨pcs, s⟩ := hs
          exact ⟨pcs, s.step hst2 (fun r hr e => by omega)⟩
        · refine hr2.less (by omega) ?_
          rw [hk]
          have : (n32 (z :: (kp d tl ++ rest))) = n32 (z :: kp d tl) ++ n32 rest := by simp [n32]
          rw [this, List.take_append_of_le_length (by simp [n32, hk]), List.take_of_length_le (by simp [n32, hk])])
    have HNL := Lib.hid (show (n32 (kp d tl)).length = k * 1 by simp [n32, hk])
    have HONE := Lib.hid (show ∀ u ∈ n32 (kp d tl), u.oneCell' = true from fun u hu => by
      obtain ⟨q, _, rfl⟩ := List.mem_map.1 hu
      rfl)
    have HKD := Lib.hid hk
    have B0 : Hid (Below w.heap.size w w.drew) := Below.draws (Below.refl _ _) 1
    generalize hnw : n32 (kp d tl) = news at *
    clear hk hnw
    go_wp2_with fail
    by_cases hk0 : k = 0
    · have hn0 : news = [] := List.eq_nil_of_length_eq_zero (by have := HNL.out; omega)
      subst hk0
      subst hn0
      have HD2 := Lib.hid (show ∀ (W W' : World) (e : Ending), Below w.heap.size w W → DfPost B τ W p n d g cap z tl e W' → e = .returned (.slice (some ⟨g, 1, none⟩) 0 (cap - 1)) ∧ SoPost B τ w p n d g cap z tl (.returned (.slice (some ⟨g, 0, none⟩) 1 cap)) W' from fun W W' e b hd => by
        obtain ⟨a, _, _, c⟩ := HD.out W W' e b hd
        exact ⟨a, c⟩)
      clear HD HNL HONE
      go_region_held3 (fun _ => True) (trivial) ((go_at_call 171; (with_reducible refine (CD.out _ B0.out).mono ?_); rintro e W2 hd; obtain ⟨rfl, hp2⟩ := HD2.out _ _ _ B0.out hd; have HE := Lib.hid hp2; clear hd hp2))
      all_goals
        go_wp2_with fail
        go_ret
        exact HE.out
    · have HD3 := Lib.hid (show ∀ (W W' : World) (e : Ending), Below w.heap.size w W → DfPost B τ W p n d g cap z tl e W' → e = .returned (.slice (some ⟨g, 1, none⟩) k (cap - 1)) ∧ SoPost B τ w p n d g cap z tl (.returned (.slice (some ⟨g, 0, none⟩) (1 + k) cap)) (W'.setCells g 1 news) ∧ (loadCellsFrom ⟨g, 1, none⟩ 0 k #[]).run Tryz.prog W' = .ok news.toArray W' ∧ (storeCells ⟨g, 1, none⟩ news).run Tryz.prog W' = .ok () (W'.setCells g 1 news) from fun W W' e b hd => by
        obtain ⟨a, b2, c, d'⟩ := HD.out W W' e b hd
        refine ⟨a, d', ?_, ?_⟩
        · have := run_loadCells_list (P := Tryz.prog) W' ⟨g, 1, none⟩ news (fun j u hu => by rw [Addr.add_lit]; exact b2 j u hu)
          rw [HNL.out, Nat.mul_one] at this
          exact this
        · have := run_storeCells_cells (P := Tryz.prog) g 1 news 0 W' (fun j hj => by
            obtain ⟨u, hu⟩ : ∃ u, news[j]? = some u := ⟨_, List.getElem?_eq_getElem hj⟩
            rw [show 1 + 0 + j = 1 + j by omega, b2 j u hu]; rfl) (fun j hj => c _) HONE.out
          exact this)
      clear HD HNL HONE
      go_region_held3 (fun _ => True) (trivial) ((go_at_call 171; (with_reducible refine (CD.out _ B0.out).mono ?_); rintro e W2 hd; obtain ⟨rfl, hp2, hap, hap2⟩ := HD3.out _ _ _ B0.out hd; have HE := Lib.hid hp2; clear hd hp2))
      all_goals
        go_wp2_with fail
        go_ret
        exact HE.out
  | false =>
    have hkp : kp d tl = tl := kp_none hany
    have HE : Hid (∀ W W' : World, Below w.heap.size w W → Below W.heap.size W W' → SoPost B τ w p n d g cap z tl (.returned (.slice (some ⟨g, 0, none⟩) (1 + tl.length) cap)) (W'.setCells g 1 (n32 tl)) ∧ (∀ (j : Nat) (u : Value), (n32 tl)[j]? = some u → W'.cell? ⟨g, 1 + j, none⟩ = some u) ∧ ∀ j, W'.frozen? ⟨g, j, none⟩ = false) := fun W W' b b' => by
      have hb : Below w.heap.size w W' := b.trans (b'.mono b.size)
      have hg : τ g = 0 := hr.2 g rfl
      have hr1 := hr.stp (Stp.of_below τ hb)
      have hcell : ∀ (j : Nat) (u : Value), (n32 tl)[j]? = some u → W'.cell? ⟨g, 1 + j, none⟩ = some u := fun j u hu => hr1.cell (by rw [Nat.add_comm]; exact hu)
      refine ⟨⟨by rw [hkp, Nat.add_comm], ?_, ?_, (Stk.of_below hb).trans (Stk.cells _ _ _)⟩, hcell, ?_⟩
      · obtain ⟨pcs, s⟩ := h.below hb
        exact ⟨pcs, s.step (step_cells (w := W') hg (n32 tl) 1) (fun r hr e => by omega)⟩
      · have hr2 := hr1.stores (n32 tl) 1 _ _ (by rw [show (n32 tl).length = tl.length by simp [n32]]; omega)
        have e : n32 tl = ((n32 (z :: tl)).drop 1).take tl.length := by
          have : (n32 (z :: tl)).drop 1 = n32 tl := by simp [n32]
          rw [this, List.take_of_length_le (by simp [n32])]
        rw [e, sets_same _ 1 tl.length (by simp [n32]; omega)] at hr2
        rw [hkp]
        rw [← e] at hr2
        exact hr2
      · rcases hr1.at with ⟨_, h1⟩ | ⟨g', cap', cur, h0, hb, _⟩
        · omega
        · injection h0 with h0 _ _; injection h0 with h0; injection h0 with h0; subst h0; exact hb.free
    have CD := Lib.hid (fun (W : World) (b : Below w.heap.size w W) (A : Option Addr) (c : Nat) (hA : ∀ (i q : Nat), tl[i]? = some q → A = some ⟨g, 1, none⟩) => ndlkeep_any (tl := tl) (A := A) (c := c) (h.below b) L (fun i q hq => ⟨⟨g, 1, none⟩, hA i q hq, by rw [Addr.add_lit]; exact (hr.stp (Stp.of_below τ b)).cell (by rw [Nat.add_comm]; show (n32 tl)[i]? = _; simp [n32, hq])⟩) hmx hls hany)
    obtain ⟨i0, hi0, hz0, hz1, hz2⟩ := info_parts infoLit
    have HI := Lib.hid (show _ ∧ _ ∧ _ ∧ _ from ⟨hi0, hz0, hz1, hz2⟩)
    have B0 : Hid (Below w.heap.size w w.drew) := Below.draws (Below.refl _ _) 1
    clear h L hr hls hcap hany hkp hi0 hz0 hz1 hz2
    go_enter Tryz.func128, Tryz.ntmps128
    have b1 : (1 : Int) ≤ (cap : Int) := by omega
    have b2 : (1 : Int) ≤ (tl.length : Int) + 1 := by omega
    by_cases hl0 : tl.length = 0
    · have ht : tl = [] := List.eq_nil_of_length_eq_zero hl0
      subst ht
      have HE2 : Hid (∀ W W' : World, Below w.heap.size w W → Below W.heap.size W W' → SoPost B τ w p n d g cap z [] (.returned (.slice (some ⟨g, 0, none⟩) 1 cap)) W') := fun W W' b b' => (HE.out W W' b b').1
      have CD2 : Hid (∀ (W : World), Below w.heap.size w W → ∀ (A : Option Addr) (c : Nat), Calls Tryz.prog 171 #[.slice A 0 c, .func (.func 172) #[ptr p] #[]] W fun e w' => e = .returned (.slice A 0 c) ∧ Below W.heap.size W w') := fun W b A c => CD.out W b A c (fun i q hq => by cases hq)
      clear HE CD hl0
      by_cases hc0 : cap = 1
      · subst hc0
        go_wp2_with fail
        go_region_held3 (fun _ => True) (trivial) ((go_at_call 171; (with_reducible refine (CD2.out _ B0.out _ _).mono ?_); rintro e W2 ⟨rfl, hd⟩; have HE3 := Lib.hid (HE2.out _ _ B0.out hd); clear hd))
        all_goals
          go_wp2_with fail
          go_ret
          exact HE3.out
      · have n1 : ¬ cap - 1 = 0 := by omega
        go_wp2_with fail
        go_region_held3 (fun _ => True) (trivial) ((go_at_call 171; (with_reducible refine (CD2.out _ B0.out _ _).mono ?_); rintro e W2 ⟨rfl, hd⟩; have HE3 := Lib.hid (HE2.out _ _ B0.out hd); clear hd))
        all_goals
          go_wp2_with fail
          go_ret
          exact HE3.out
    · have n1 : ¬ cap - 1 = 0 := by omega
      have n2 : ¬ cap = 1 := by omega
      have HAP := Lib.hid (show ∀ W W' : World, Below w.heap.size w W → Below W.heap.size W W' → (loadCellsFrom ⟨g, 1, none⟩ 0 tl.length #[]).run Tryz.prog W' = .ok (n32 tl).toArray W' ∧ (storeCells ⟨g, 1, none⟩ (n32 tl)).run Tryz.prog W' = .ok () (W'.setCells g 1 (n32 tl)) from fun W W' b b' => by
        obtain ⟨_, b2, c⟩ := HE.out W W' b b'
        refine ⟨?_, ?_⟩
        · have := run_loadCells_list (P := Tryz.prog) W' ⟨g, 1, none⟩ (n32 tl) (fun j u hu => by rw [Addr.add_lit]; exact b2 j u hu)
          rw [show (n32 tl).length = tl.length by simp [n32]] at this
          exact this
        · have := run_storeCells_cells (P := Tryz.prog) g 1 (n32 tl) 0 W' (fun j hj => by
            obtain ⟨u, hu⟩ : ∃ u, (n32 tl)[j]? = some u := ⟨_, List.getElem?_eq_getElem hj⟩
            rw [show 1 + 0 + j = 1 + j by omega, b2 j u hu]; rfl) (fun j hj => c _) (fun u hu => by obtain ⟨q, _, rfl⟩ := List.mem_map.1 hu; rfl)
          exact this)
      have HE2 := Lib.hid (fun (W W' : World) (b : Below w.heap.size w W) (b' : Below W.heap.size W W') => (HE.out W W' b b').1)
      have CD2 := Lib.hid (fun (W : World) (b : Below w.heap.size w W) => CD.out W b (some ⟨g, 1, none⟩) (cap - 1) (fun _ _ _ => rfl))
      generalize n32 tl = news at *
      clear HE CD
      go_wp2_with fail
      go_region_held3 (fun _ => True) (trivial) ((go_at_call 171; (with_reducible refine (CD2.out _ B0.out).mono ?_); rintro e W2 ⟨rfl, hd⟩; obtain ⟨hap, hap2⟩ := HAP.out _ _ B0.out hd; have HE3 := Lib.hid (HE2.out _ _ B0.out hd); clear hd))
      all_goals
        go_wp2_with fail
        go_ret
        exact HE3.out
end
end Go.Proofs.YtpmdnbdmocdngaaGreat

namespace Go.Proofs.YtpmdnbdmocdngaaGreat
open Go.ChangeShapes Go.WideShapes Go.ChangeAt Go.RowKit
set_option linter.unusedVariables false
set_option linter.unusedSimpArgs false

section
variable {B : Nat} {τ : Nat → Nat} {w : World} {p n : Nat} {d : Sd}
theorem Gat.pos {i : Nat} {s r : Nt} (G : Gat d n i s r) : ∃ i', i = i' + 1 := by cases G <;> exact ⟨_, rfl⟩
set_option maxHeartbeats 1600000 in
theorem gather_any (h : Sr B τ w p n d) (L : Len n d) {k : Nat} {c : Cl} (hk : d.cls[k]? = some c) (hkb : k < 2147483648) (hc : CGood n c) (htr : ∀ q ∈ d.tr, q < 2 * n) (hdp : ∀ v ∈ d.dp, v ≤ n) (hB : B ≤ w.heap.size) {r : Nt} (G : Gat d n d.tr.length (Nt.all d.dp d.ma.length ⟨d.se, d.nu, [0], 0⟩ c.ls) r) :
    Calls Tryz.prog 129 #[ptr p, .int .i32 (k : Int)] w (GaPost B τ w p n d r) := by
  have hmk : ∀ w, (Instr.makeSlice 123 (.int .i64 1) (.int .i64 1)).run Tryz.prog w = .ok (.slice (some ⟨w.heap.size, 0, none⟩) 1 1) (w.alloc (.cells (madeCells #[.int .i32 0] 1) 138)) := fun w => run_make_row' (P := Tryz.prog) 123 138 (.int .i32 0) 4 Tryz.underlying123 infoLit rfl .i64 .i64 1 (by omega) (by omega) w
  have hcells : madeCells #[Value.int .i32 0] 1 = #[Value.int .i32 0] := by apply Array.ext'; rw [toList_madeCells_one]; rfl
  have hn := L.nb
  have HL := Lib.hid L
  have HTR := Lib.hid htr
  have HDP := Lib.hid hdp
  have HG := Lib.hid G
  -- the world behind both allocations
  have b1 : Below w.heap.size w ((w.alloc (.cells (madeCells #[.int .i32 0] 1) 138)).alloc (.cells #[.slice (some ⟨w.heap.size, 0, none⟩) 1 1] 123)) := ((Below.refl _ _).alloc (Nat.le_refl _) _).alloc (by simp) _
  obtain ⟨τ0, hτ0⟩ : ∃ τ0 : Nat → Nat, τ0 = fun b => if w.heap.size ≤ b then 0 else τ b := ⟨_, rfl⟩
  have k1 : Step (fun _ => False) τ τ0 w ((w.alloc (.cells (madeCells #[.int .i32 0] 1) 138)).alloc (.cells #[.slice (some ⟨w.heap.size, 0, none⟩) 1 1] 123)) := ⟨(Step.of_below (fun _ => False) τ b1).kept, fun b hb => by rw [hτ0]; exact if_neg (by omega)⟩
  have r0 : ∀ b, w.heap.size ≤ b → τ0 b = 0 := fun b hb => by rw [hτ0]; exact if_pos hb
  have R1 := Lib.hid (show Sr B τ0 ((w.alloc (.cells (madeCells #[.int .i32 0] 1) 138)).alloc (.cells #[.slice (some ⟨w.heap.size, 0, none⟩) 1 1] 123)) p n d by
    obtain ⟨pcs, h⟩ := h; exact ⟨pcs, h.step k1 (fun _ _ h => h)⟩)
  have T1 := Lib.hid (Stp.of_step k1 (fun h => h))
  have hA : ((w.alloc (.cells (madeCells #[.int .i32 0] 1) 138)).alloc (.cells #[.slice (some ⟨w.heap.size, 0, none⟩) 1 1] 123)).heap[w.heap.size]? = some (.cells (madeCells #[.int .i32 0] 1) 138) := (alloc_other (by simp)).trans (new_heap w _)
  have hB1 : ((w.alloc (.cells (madeCells #[.int .i32 0] 1) 138)).alloc (.cells #[.slice (some ⟨w.heap.size, 0, none⟩) 1 1] 123)).heap[w.heap.size + 1]? = some (.cells #[.slice (some ⟨w.heap.size, 0, none⟩) 1 1] 123) := by
    have := new_heap (w.alloc (.cells (madeCells #[.int .i32 0] 1) 138)) (.cells #[.slice (some ⟨w.heap.size, 0, none⟩) 1 1] 123)
    simpa using this
  have X1 := Lib.hid (show Bx w.heap.size τ0 ((w.alloc (.cells (madeCells #[.int .i32 0] 1) 138)).alloc (.cells #[.slice (some ⟨w.heap.size, 0, none⟩) 1 1] 123)) (w.heap.size + 1) (some ⟨w.heap.size, 0, none⟩) 1 [0] from
    ⟨r0 _ (by omega), by omega, by unfold World.cell?; rw [hB1]; rfl, by unfold World.frozen?; rw [hB1]; simp, ⟨⟨rfl, .inr ⟨w.heap.size, 1, _, rfl, Nat.zero_le _, hA, Nat.le_refl _, by unfold maxLen; omega, by rw [hcells]; rfl, by rw [hcells]; rfl⟩⟩, fun g hg => by
      have : w.heap.size = g := by simpa [Value.ownBlock] using hg
      subst this; exact r0 _ (Nat.le_refl _)⟩, fun g hg => by
      have : w.heap.size = g := by simpa [Value.ownBlock] using hg
      subst this; exact ⟨Nat.le_refl _, by omega⟩⟩)
  have hsz : w.heap.size ≤ ((w.alloc (.cells (madeCells #[.int .i32 0] 1) 138)).alloc (.cells #[.slice (some ⟨w.heap.size, 0, none⟩) 1 1] 123)).heap.size := b1.size
  have NO := Lib.hid (note_any R1.out HL.out hB hsz X1.out hk hkb hc.1 hc.2.1 hc.2.2 (by have := HL.out.nu; omega) (by simp) hdp)
  have HS := Lib.hid (fun (M : Nat) => (Nt.all_len d.dp M c.ls ⟨d.se, d.nu, [0], 0⟩).1.trans L.se)
  clear h L htr hdp G b1 k1 r0 hτ0 hA hB1 hsz R1 X1 hk hc hcells
  go_enter Tryz.func129, Tryz.ntmps129
  go_wp2_with fail
  generalize ((w.alloc (.cells (madeCells #[.int .i32 0] 1) 138)).alloc (.cells #[.slice (some ⟨w.heap.size, 0, none⟩) 1 1] 123)) = W1 at *
  generalize hb : w.heap.size + 1 = b at *
  refine NO.out.mono ?_
  rintro e W2 ⟨rfl, τ2, A2, cap2, r2, x2, t2, hd2⟩
  have H2 := Lib.hid (show GaRel B τ w p n d b (Nt.all d.dp d.ma.length ⟨d.se, d.nu, [0], 0⟩ c.ls) W2 from ⟨⟨τ2, A2, cap2, r2, x2, Stq.stp T1.out t2⟩, HS.out _⟩)
  clear r2 x2 t2 hd2 NO T1 HS
  generalize Nt.all d.dp d.ma.length ⟨d.se, d.nu, [0], 0⟩ c.ls = s0 at *
  obtain ⟨AT, ct, f3, _⟩ : ∃ A cap, W2.cell? ⟨p, 3, none⟩ = some (.slice A d.tr.length cap) ∧ (A = none → d.tr.length = 0) := by
    obtain ⟨τ', A, cap, r, _, _⟩ := H2.out.ex
    exact r.head_tr
  have zp : p < W2.heap.size := lt_of_cell f3
  clear hmk
  have htl : d.tr.length ≤ 65536 := by have := HL.out.tr; omega
  go_wp2_with fail
  have HI : Hid (∃ (i : Nat) (s : Nt), i ≤ d.tr.length ∧ Gat d n i s r ∧ (i : Int) - 1 = (d.tr.length : Int) - 1 ∧ s = s0) := ⟨d.tr.length, s0, Nat.le_refl _, HG.out, rfl, rfl⟩
  go_loopw [6, 7] (fun lv iv wr => ∃ (i : Nat) (s : Nt), i ≤ d.tr.length ∧ iv = .int .i64 ((i : Int) - 1) ∧ lv = .int .i64 (s.last : Int) ∧ Hid (Gat d n i s r) ∧ Hid (GaRel B τ w p n d b s wr)) (fun _ iv _ => (intOf iv + 1).toNat)
  case atStart => exact ⟨d.tr.length, s0, Nat.le_refl _, by go_num, rfl, HG.out, H2.out⟩
  case round =>
    obtain ⟨i1, s, hi, rfl, rfl, G, H⟩ := hrel
    clear HG H2 f3 zp HI
    obtain ⟨i, rfl⟩ := G.out.pos
    have hi2 : i + 1 ≤ d.tr.length := hi
    obtain ⟨x, hx⟩ : ∃ x, d.tr[i]? = some x := ⟨_, List.getElem?_eq_getElem (Nat.lt_of_succ_le hi2)⟩
    have hx2 := HTR.out x (List.mem_of_getElem? hx)
    obtain ⟨τ1, A1, cap1, r1, bx1, t1⟩ := H.out.ex
    have R := Lib.hid r1
    have BX := Lib.hid bx1
    have T := Lib.hid t1
    have HSE := Lib.hid H.out.se
    obtain ⟨g3, c3, a3⟩ := R.out.at_tr (by show 0 < d.tr.length; omega)
    have f3 : wr.cell? ⟨p, 3, none⟩ = some (.slice (some ⟨g3, 0, none⟩) d.tr.length c3) := a3.len_tr.1
    have l3 : d.tr.length ≤ c3 := a3.len_tr.2
    have k3 := a3.cap
    have x3 : wr.cell? ⟨g3, i, none⟩ = some (.int .i32 (x : Int)) := a3.tr hx
    have z3 := a3.lt
    have zp := R.out.plt
    have CN := Lib.hid (fun W => lnum_any x W (by omega))
    have CO := Lib.hid (fun W => loth_any x W (by omega))
    obtain ⟨v, hv⟩ : ∃ v, x / 2 = v := ⟨_, rfl⟩
    have hvn : v < n := by omega
    obtain ⟨g13, c13, a13⟩ := R.out.at_se (by show 0 < s.se.length; rw [HSE.out]; omega)
    obtain ⟨sv, hsv⟩ : ∃ sv, s.se[v]? = some sv := ⟨_, List.getElem?_eq_getElem (by rw [HSE.out]; omega)⟩
    have hsd : s.se.getD (x / 2) false = sv := by rw [hv, List.getD_eq_getElem?_getD, hsv]; rfl
    have f13 : wr.cell? ⟨p, 13, none⟩ = some (.slice (some ⟨g13, 0, none⟩) s.se.length c13) := a13.len_se.1
    have l13 : s.se.length ≤ c13 := a13.len_se.2
    have k13 := a13.cap
    have x13 : wr.cell? ⟨g13, v, none⟩ = some (.bool sv) := a13.se hsv
    have z13 := a13.lt
    have e13 : v < s.se.length := by rw [HSE.out]; omega
    have v0 : (0 : Int) ≤ (v : Int) := by omega
    have v13 : (v : Int) < (s.se.length : Int) := by omega
    have hib : ((i + 1 : Nat) : Int) - 1 = (i : Int) := by omega
    have i0 : (0 : Int) ≤ (i : Int) := by omega
    have i3 : (i : Int) < (d.tr.length : Int) := by omega
    have hil : i < d.tr.length := by omega
    rw [hv] at CN
    have HX := Lib.hid hx
    have HV := Lib.hid hv
    have HSD := Lib.hid hsd
    clear r1 bx1 t1 hx a3 a13 hsv hv hsd
    rw [hib]
    cases sv with
    | false =>
      have HG2 : Hid (Gat d n i s r) := by
        have := G.out
        cases this with
        | skip a b g => exact g
        | done a b _ _ => rw [HX.out] at a; injection a with a; subst a; rw [HSD.out] at b; cases b
        | note a b _ _ _ _ _ _ _ _ _ => rw [HX.out] at a; injection a with a; subst a; rw [HSD.out] at b; cases b
      go_wp2_with fail
      go_quiet ((go_at_call 90; with_reducible exact calm_one CN.out))
      have B1 : Hid (Below wr.heap.size wr (wr.drewN nq)) := Below.draws (Below.refl _ _) nq
      have HE : Hid (GaRel B τ w p n d b s (wr.drewN nq)) := ⟨⟨τ1, A1, cap1, R.out.below B1.out, BX.out.below B1.out, T.out.trans (Stp.of_below τ1 B1.out)⟩, HSE.out⟩
      go_wp2_with fail
      go_roundw
      case rel => exact ⟨i, s, by omega, by go_num, rfl, HG2.out, HE.out⟩
      case measure => first | (simp [intOf]; done) | (simp [intOf]; omega)
    | true =>
      have HC : (s.last = 1 ∧ 0 < s.ls.length ∧ r = { s with ls := s.ls.set 0 (oth x) }) ∨ ∃ (k : Nat) (c : Cl), 2 ≤ s.last ∧ s.last ≤ 2000000 ∧ d.wy[v]? = some (k : Int) ∧ k < 2147483648 ∧ d.cls[k]? = some c ∧ CGood n c ∧ s.nu.length ≤ n ∧ s.ls.length ≤ 2000000 ∧ Gat d n i (s.more d c) r := by
        have := G.out
        rw [← HV.out]
        cases this with
        | skip a b g => rw [HX.out] at a; injection a with a; subst a; rw [HSD.out] at b; cases b
        | done a b e f => rw [HX.out] at a; injection a with a; subst a; exact .inl ⟨e, f, rfl⟩
        | note a b e f g h1 h2 h3 h4 h5 h6 => rw [HX.out] at a; injection a with a; subst a; exact .inr ⟨_, _, e, f, g, h1, h2, h3, h4, h5, h6⟩
      rcases HC with ⟨hl1, hlp, hr⟩ | ⟨k9, c9, hl2, hl3, hy, hk9, hkc, hcg, hnu, hls, hg⟩
      · have e1 : ((s.last : Int) == 1) = true := by rw [beq_iff_eq]; omega
        have HR := Lib.hid hr
        clear hr
        go_wp2_with fail
        go_quiet ((go_at_call 90; with_reducible exact calm_one CN.out))
        have B1 : Hid (Below wr.heap.size wr (wr.drewN nq)) := Below.draws (Below.refl _ _) nq
        have R3 := Lib.hid (R.out.below B1.out)
        have BX3 := Lib.hid (BX.out.below B1.out)
        have T3 := Lib.hid (T.out.trans (Stp.of_below τ1 B1.out))
        clear R BX T f3 x3 z3 zp f13 x13 z13 B1
        generalize wr.drewN nq = W3 at *
        obtain ⟨g, rfl, rg, gg, gb, gl, gc, gm, gf, gcell⟩ := BX3.out.head hlp
        obtain ⟨q0, hq0⟩ : ∃ q0, s.ls[0]? = some q0 := ⟨_, List.getElem?_eq_getElem hlp⟩
        have x0 : W3.cell? ⟨g, 0, none⟩ = some (.int .i32 (q0 : Int)) := gcell 0 q0 hq0
        have fb := BX3.out.at_
        have zb := BX3.out.lt
        have hne0 : ¬ s.ls = [] := fun e => by rw [e] at hlp; exact Nat.lt_irrefl _ hlp
        obtain ⟨u1, u2, u3⟩ := BX3.out.store R3.out hlp (oth x)
        have KB : ∀ (W : World) (o : Nat) (u : Value), W.cell? ⟨b, 0, none⟩ = some (.slice (some ⟨g, 0, none⟩) s.ls.length cap1) → (W.setCell ⟨g, o, none⟩ u).cell? ⟨b, 0, none⟩ = some (.slice (some ⟨g, 0, none⟩) s.ls.length cap1) := fun W o u h => (World.cell?_of_block (set_other (p := ⟨g, o, none⟩) gb.symm)).trans h
        have HE : Hid (∀ W : World, W.heap = (W3.setCell ⟨g, 0, none⟩ (.int .i32 (oth x : Int))).heap → W.os = W3.os → W.tape = W3.tape → W.output = W3.output → GaPost B τ w p n d r (.returned (.slice (some ⟨g, 0, none⟩) s.ls.length cap1)) W) := fun W h0 h1 h2 h3 => by
          have ht := Stq.stp T3.out u3
          rw [HR.out]
          refine ⟨τ1, some ⟨g, 0, none⟩, cap1, by show _ = Ending.returned (.slice (some ⟨g, 0, none⟩) (s.ls.set 0 (oth x)).length cap1); rw [List.length_set], u1.alike h0 h1 h2 h3, ?_, fun g2 hg2 => (u2.rowge g2 hg2).1, ht.alike h0 h1 h2 h3⟩
          exact u2.row.stp ((Stp.refl τ1 _).alike h0 h1 h2 h3)
        have ho : oth x < 2 * n := oth_lt hx2
        clear u1 u2 u3 gcell hq0 G H
        go_wp2_with fail
        go_region_held3 (fun w' => w'.cell? ⟨b, 0, none⟩ = some (.slice (some ⟨g, 0, none⟩) s.ls.length cap1)) (first | go_keep | (exact KB _ _ _ (by assumption))) ((go_at_call 91; (with_reducible refine (CO.out _).mono ?_); rintro e we ⟨rfl, rfl⟩))
        go_wp2_with fail
        go_ret
        exact HE.out _ rfl rfl rfl rfl
      · have e1 : ((s.last : Int) == 1) = false := beq_eq_false_iff_ne.2 (by omega)
        have hne1 : ¬ (s.last : Int) = 1 := by omega
        obtain ⟨t, ht⟩ : ∃ t, t = Nt.all d.dp d.ma.length ⟨s.se, s.nu, s.ls, 0⟩ c9.ls := ⟨_, rfl⟩
        have HM := Lib.hid (show s.more d c9 = { t with last := s.last + t.last - 1 } by rw [ht]; rfl)
        have htb : t.last ≤ 131072 := by
          have h1 : t.last ≤ 0 + c9.ls.length := by rw [ht]; exact (Nt.all_len d.dp d.ma.length c9.ls ⟨s.se, s.nu, s.ls, 0⟩).2.2.2
          have := hcg.2.1; omega
        have HG2 := Lib.hid hg
        have HLS2 := Lib.hid hls
        have HK := Lib.hid (show (d.noted s).cls[k9]? = some c9 from hkc)
        have HCG := Lib.hid hcg
        have HY := Lib.hid hy
        have LN := Lib.hid (HL.out.noted HSE.out hnu)
        go_wp2_with fail
        go_quiet ((go_at_call 90; with_reducible exact calm_one CN.out))
        have B1 : Hid (Below wr.heap.size wr (wr.drewN nq)) := Below.draws (Below.refl _ _) nq
        have R3 := Lib.hid (R.out.below B1.out)
        have BX3 := Lib.hid (BX.out.below B1.out)
        have T3 := Lib.hid (T.out.trans (Stp.of_below τ1 B1.out))
        clear R BX T f3 x3 z3 zp f13 x13 z13 B1 hkc hcg hg hls G H
        generalize wr.drewN nq = W3 at *
        have B2 : Hid (Below W3.heap.size W3 W3.drew) := Below.draws (Below.refl _ _) 1
        have T4 := Lib.hid (T3.out.trans (Stp.of_below τ1 B2.out))
        obtain ⟨g7, c7, a7⟩ := R3.out.at_wy (by show 0 < d.wy.length; rw [HL.out.wy]; omega)
        have f7 : W3.cell? ⟨p, 7, none⟩ = some (.slice (some ⟨g7, 0, none⟩) d.wy.length c7) := a7.len_wy.1
        have l7 : d.wy.length ≤ c7 := a7.len_wy.2
        have k7 := a7.cap
        have x7 : W3.cell? ⟨g7, v, none⟩ = some (.int .i32 (k9 : Int)) := a7.wy HY.out
        have z7 := a7.lt
        have zp := R3.out.plt
        have v7 : (v : Int) < (d.wy.length : Int) := by rw [HL.out.wy]; omega
        have e7 : v < d.wy.length := by rw [HL.out.wy]; omega
        have NO4 := Lib.hid (note_any (R3.out.below B2.out) LN.out hB T4.out.kept.size (BX3.out.below B2.out) HK.out hk9 HCG.out.1 HCG.out.2.1 HCG.out.2.2 (by show s.nu.length ≤ 2000000; omega) HLS2.out HDP.out)
        have ht2 : Nt.all (d.noted s).dp (d.noted s).ma.length ⟨(d.noted s).se, (d.noted s).nu, s.ls, 0⟩ c9.ls = t := ht.symm
        rw [ht2] at NO4
        have f7d : W3.drew.cell? ⟨p, 7, none⟩ = some (.slice (some ⟨g7, 0, none⟩) d.wy.length c7) := f7
        have F7 := Lib.hid f7d
        have HSE2 := Lib.hid (show (s.more d c9).se.length = n from (Nt.more_len d s c9).trans HSE.out)
        clear a7 hy ht ht2 f7d
        go_wp2_with fail
        go_region_held3 (fun w' => w'.cell? ⟨p, 7, none⟩ = some (.slice (some ⟨g7, 0, none⟩) d.wy.length c7) ∧ w'.cell? ⟨g7, v, none⟩ = some (.int .i32 (k9 : Int))) (first | go_keep | (exact ⟨by assumption, by assumption⟩)) ((first | (go_at_call 90; (with_reducible refine (CN.out _).mono ?_); rintro e we ⟨rfl, rfl⟩) | (go_at_call 173; refine NO4.out.mono ?_; rintro e W5 ⟨rfl, τ5, A5, cap5, r5, x5, t5, d5⟩; have y7 : W5.cell? ⟨p, 7, none⟩ = some (.slice (some ⟨g7, 0, none⟩) d.wy.length c7) := (d5 7 (by decide)).trans F7.out; have y8 : W5.cell? ⟨g7, v, none⟩ = some (.int .i32 (k9 : Int)) := r5.why_again HY.out y7; have HE := Lib.hid (show GaRel B τ w p n d b (s.more d c9) W5 from ⟨by rw [HM.out]; exact ⟨τ5, A5, cap5, r5, x5, Stq.stp T4.out t5⟩, HSE2.out⟩); clear r5 x5 t5 d5)))
        go_wp2_with fail
        go_roundw
        case rel => exact ⟨i, s.more d c9, by omega, by go_num, by rw [HM.out]; show Value.int .i64 _ = Value.int .i64 ((s.last + t.last - 1 : Nat) : Int); congr 1; rw [IntKind.wrap_i64, IntKind.wrap_i64]; omega, HG2.out, HE.out⟩
        case measure => first | (simp [intOf]; done) | (simp [intOf]; omega)
end
end Go.Proofs.YtpmdnbdmocdngaaGreat

namespace Go.Proofs.YtpmdnbdmocdngaaGreat
open Go.ChangeShapes Go.WideShapes Go.ChangeAt Go.RowKit
set_option linter.unusedVariables false
set_option linter.unusedSimpArgs false

/-- What a lesson is: a list of its own, its first literal, the others, the one ahead that hangs on the latest decision. -/
def LsPost (B : Nat) (τ : Nat → Nat) (w : World) (p n : Nat) (d : Sd) (z : Nat) (tl : List Nat) (e : Ending) (w' : World) : Prop :=
  ∃ τ' g cap M, e = .returned (.slice (some ⟨g, 0, none⟩) (M.length + 1) cap) ∧ Sr B τ' w' p n d ∧ RowN τ' 0 w' 138 1 (.slice (some ⟨g, 0, none⟩) (M.length + 1) cap) (M.length + 1) (n32 (z :: M)) ∧ w.heap.size ≤ g ∧ Stp τ τ' w w' ∧ M.Perm (kp d tl) ∧ ∀ q1, M[0]? = some q1 → ∀ q ∈ M, dpt d.dp q ≤ dpt d.dp q1
structure LsR (B : Nat) (τ : Nat → Nat) (w0 : World) (p n : Nat) (d : Sd) (z g cap L : Nat) (K M : List Nat) (i : Nat) (wr : World) : Prop where
  R : Sr B τ wr p n d
  row : RowN τ 0 wr 138 1 (.slice (some ⟨g, 0, none⟩) (L + 1) cap) (L + 1) (n32 (z :: M))
  S : Stk g w0 wr
  len : M.length = L
  pm : M.Perm K
  mx : ∀ q1, M[0]? = some q1 → ∀ j q, j + 1 < i → M[j]? = some q → dpt d.dp q ≤ dpt d.dp q1
section
variable {B : Nat} {τ : Nat → Nat} {w0 wr : World} {p n z g cap L i : Nat} {d : Sd} {K M : List Nat}
theorem LsR.swap (h : LsR B τ w0 p n d z g cap L K M i wr) {q1 q : Nat} (h1 : M[0]? = some q1) (hi : 2 ≤ i) (hq : M[i - 1]? = some q) (hlt : dpt d.dp q1 < dpt d.dp q) : LsR B τ w0 p n d z g cap L K ((M.set 0 q).set (i - 1) q1) (i + 1) ((wr.setCell ⟨g, 1, none⟩ (.int .i32 (q : Int))).setCell ⟨g, i, none⟩ (.int .i32 (q1 : Int))) := by
  have hg : τ g = 0 := h.row.2 g rfl
  have hil := (List.getElem?_eq_some_iff.1 hq).1
  have hl := h.len
  have k1 : Step (fun r => r = 0) τ τ wr (wr.setCell ⟨g, 1, none⟩ (.int .i32 (q : Int))) := Step.set _ _ hg
  have k2 : Step (fun r => r = 0) τ τ (wr.setCell ⟨g, 1, none⟩ (.int .i32 (q : Int))) ((wr.setCell ⟨g, 1, none⟩ (.int .i32 (q : Int))).setCell ⟨g, i, none⟩ (.int .i32 (q1 : Int))) := Step.set _ _ hg
  obtain ⟨t, ht⟩ : ∃ t, M = q1 :: t := by
    match M, h1 with
    | a :: t, h1 => exact ⟨t, by simp at h1; rw [h1]⟩
  obtain ⟨j, rfl⟩ : ∃ j, i = j + 2 := ⟨i - 2, by omega⟩
  have hqt : t[j]? = some q := by rw [ht] at hq; simpa using hq
  have e : (M.set 0 q).set (j + 2 - 1) q1 = q :: t.set j q1 := by rw [ht]; rfl
  refine ⟨?_, ?_, (h.S.trans Stk.set).trans Stk.set, by rw [List.length_set, List.length_set]; exact hl, ?_, fun qa ha jj qq hj hqq => ?_⟩
  · obtain ⟨pcs, s⟩ := h.R
    exact ⟨pcs, (s.step k1 (fun r hr e => by omega)).step k2 (fun r hr e => by omega)⟩
  · have := (h.row.store (i := 1) (by omega) (.int .i32 (q : Int))).store (i := j + 2) (by omega) (.int .i32 (q1 : Int))
    have e2 : ((n32 (z :: M)).set 1 (.int .i32 (q : Int))).set (j + 2) (.int .i32 (q1 : Int)) = n32 (z :: (M.set 0 q).set (j + 2 - 1) q1) := by
      rw [ht]
      simp [n32, List.map_set]
    rw [e2] at this
    exact this
  · rw [e]
    refine (perm_set t j hqt).trans ?_
    rw [← ht]; exact h.pm
  · rw [e] at ha hqq
    have ha : q = qa := by simpa using ha
    subst ha
    match jj, hj, hqq with
    | 0, _, hqq =>
      have : q = qq := by simpa using hqq
      rw [this]; exact Nat.le_refl _
    | k + 1, hj, hqq =>
      have hqq : (t.set j q1)[k]? = some qq := by simpa using hqq
      by_cases ek : j = k
      · subst ek
        rw [List.getElem?_set_self (List.getElem?_eq_some_iff.1 hqt).1] at hqq
        injection hqq with hqq
        rw [← hqq]; omega
      · rw [List.getElem?_set_ne ek] at hqq
        have := h.mx q1 h1 (k + 1) qq (by omega) (by rw [ht]; simpa using hqq)
        omega
theorem LsR.stay (h : LsR B τ w0 p n d z g cap L K M i wr) {q1 q : Nat} (h1 : M[0]? = some q1) (hi : 2 ≤ i) (hq : M[i - 1]? = some q) (hle : dpt d.dp q ≤ dpt d.dp q1) : LsR B τ w0 p n d z g cap L K M (i + 1) wr :=
  ⟨h.R, h.row, h.S, h.len, h.pm, fun qa ha j qq hj hqq => by
    rw [h1] at ha; injection ha with ha; subst ha
    by_cases e : j + 1 = i
    · have e2 : j = i - 1 := by omega
      subst e2
      rw [hq] at hqq; injection hqq with hqq; rw [← hqq]; exact hle
    · exact h.mx _ h1 j qq (by omega) hqq⟩
theorem LsR.below {W : World} (h : LsR B τ w0 p n d z g cap L K M i wr) (b : Below wr.heap.size wr W) : LsR B τ w0 p n d z g cap L K M i W :=
  ⟨h.R.below b, h.row.stp (Stp.of_below τ b), h.S.trans (Stk.of_below b), h.len, h.pm, h.mx⟩
end
end Go.Proofs.YtpmdnbdmocdngaaGreat
