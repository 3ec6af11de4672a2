/-
  Parts of the proof, joined: TreeD, TreeV.
-/
import Derived.Test.YtckoapfmfpmdgaaMp07

namespace Go.Proofs.Ytckoapfmfpmdgaa
open Go.ChangeShapes Go.WideShapes Go.ChangeAt Go.RowKit Go.Joins
set_option linter.unusedVariables false
set_option linter.unusedSimpArgs false

theorem find_zero {l : List Itm} {p : List UInt8} (h : (findT l p).2.2 = 0) : nameB p = true ∧ abv l p = 0 ∧ ∃ i, look l p = some i ∧ findT l p = (i.n, i.d, 0) := by
  unfold findT at h ⊢
  by_cases hb : nameB p = true
  · rw [if_pos hb] at h ⊢
    by_cases h0 : abv l p = 0
    · rw [if_pos h0] at h ⊢
      cases hk : look l p with
      | none => rw [hk] at h; simp at h
      | some i => exact ⟨hb, h0, i, rfl, rfl⟩
    · rw [if_neg h0] at h; exact absurd h h0
  · rw [if_neg hb] at h; simp at h
set_option maxRecDepth 100000 in
set_option maxHeartbeats 8000000 in
theorem rdrop_any {B : Nat} {W : World} {g : Nat} {sl : Value} {s : St} (h : Hid (RT B W g sl s)) (hsm : Sml s.l) (p : ByteArray) (hp : p.size ≤ 140737488351232) (dir : Bool) :
    Calls Try.prog 49 #[.pointer (some ⟨g, 0, none⟩), .string p, .bool dir] W fun e W' => e = .returned (.int .u16 (dropT s p.data.toList dir).1) ∧ RTo B W g sl (dropT s p.data.toList dir).2 W' := by
  have F := rfind_any h.out p hp
  have M := fun w (k : Gw W w) => many_any (h.out.on k) hsm p
  have A := fun w (k : Gw W w) => at_any (h.out.on k) p
  have hn : ∀ b w, (Op.unary .not (.bool b)).run Try.prog w = .ok (.bool (!b)) w := fun _ _ => rfl
  have GG : Gw W W := Gw.refl W
  unfold dropT
  unfold fV at F
  by_cases h0 : (findT s.l p.data.toList).2.2 = 0
  case neg =>
    have hne : ((findT s.l p.data.toList).2.2 == 0) = false := by simp [h0]
    simp only [h0, if_false]
    generalize findT s.l p.data.toList = r at *
    obtain ⟨x, d, e⟩ := r
    simp only at h0 hne F ⊢
    clear h0
    go_enter Try.func49, Try.ntmps49
    go_wp2_with (first
      | (go_at_call 47; with_reducible refine F.mono ?_; rintro e w' ⟨rfl, G1⟩; have GG := GG.trans G1)
      | (go_at_call 81; with_reducible refine (M _ GG).mono ?_; rintro e w' ⟨rfl, G1⟩; have GG := GG.trans G1)
      | (go_at_call 45; with_reducible refine (A _ GG).mono ?_; rintro e w' ⟨rfl, G1⟩; have GG := GG.trans G1)
      | (go_at_call 82; with_reducible refine (R _ GG).mono ?_; rintro e w' ⟨rfl, RR⟩))
    go_ret
    exact ⟨rfl, RTo.of_gw h.out GG⟩
  obtain ⟨_, _, i, hk, he⟩ := find_zero h0
  rw [he] at F ⊢
  obtain ⟨k, r, cap, hix, hki, hlt, rfl, hcap, hcm, D0, D1, D2⟩ := sl_look h.out.sl hk
  obtain ⟨k', hix', _, hera, _⟩ := ix_some hk
  have hkk : k' = k := by rw [hix] at hix'; omega
  subst hkk
  rw [hix] at A
  simp only [if_true]
  rw [hera]
  have R := fun w (q : Gw W w) => without_any (h.out.on q) k' hlt
  clear h0 he hix hix' hera hk D0 D1 D2 hki
  generalize i.d = d at *
  generalize i.n = x at *
  generalize manyL s.l p.data.toList = m at *
  cases dir with
  | false =>
    cases d with
    | true =>
      simp only [and_self, if_true]
      go_enter Try.func49, Try.ntmps49
      go_wp2_with (first
      | (go_at_call 47; with_reducible refine F.mono ?_; rintro e w' ⟨rfl, G1⟩; have GG := GG.trans G1)
      | (go_at_call 81; with_reducible refine (M _ GG).mono ?_; rintro e w' ⟨rfl, G1⟩; have GG := GG.trans G1)
      | (go_at_call 45; with_reducible refine (A _ GG).mono ?_; rintro e w' ⟨rfl, G1⟩; have GG := GG.trans G1)
      | (go_at_call 82; with_reducible refine (R _ GG).mono ?_; rintro e w' ⟨rfl, RR⟩))
      go_ret
      exact ⟨rfl, RTo.of_gw h.out GG⟩
    | false =>
      simp only [Bool.false_eq_true, and_false, false_and, if_false]
      go_enter Try.func49, Try.ntmps49
      go_wp2_with (first
      | (go_at_call 47; with_reducible refine F.mono ?_; rintro e w' ⟨rfl, G1⟩; have GG := GG.trans G1)
      | (go_at_call 81; with_reducible refine (M _ GG).mono ?_; rintro e w' ⟨rfl, G1⟩; have GG := GG.trans G1)
      | (go_at_call 45; with_reducible refine (A _ GG).mono ?_; rintro e w' ⟨rfl, G1⟩; have GG := GG.trans G1)
      | (go_at_call 82; with_reducible refine (R _ GG).mono ?_; rintro e w' ⟨rfl, RR⟩))
      go_ret
      exact ⟨rfl, RTo.pre GG RR⟩
  | true =>
    cases d with
    | false =>
      simp only [Bool.false_eq_true, Bool.true_eq_false, and_false, false_and, and_self, if_true, if_false]
      go_enter Try.func49, Try.ntmps49
      go_wp2_with (first
      | (go_at_call 47; with_reducible refine F.mono ?_; rintro e w' ⟨rfl, G1⟩; have GG := GG.trans G1)
      | (go_at_call 81; with_reducible refine (M _ GG).mono ?_; rintro e w' ⟨rfl, G1⟩; have GG := GG.trans G1)
      | (go_at_call 45; with_reducible refine (A _ GG).mono ?_; rintro e w' ⟨rfl, G1⟩; have GG := GG.trans G1)
      | (go_at_call 82; with_reducible refine (R _ GG).mono ?_; rintro e w' ⟨rfl, RR⟩))
      go_ret
      exact ⟨rfl, RTo.of_gw h.out GG⟩
    | true =>
      simp only [Bool.true_eq_false, and_false, false_and, if_false, true_and]
      by_cases hm : 0 < m
      · have hm' : (0 : Int) < m := by omega
        simp only [hm, if_true]
        go_enter Try.func49, Try.ntmps49
        go_wp2_with (first
      | (go_at_call 47; with_reducible refine F.mono ?_; rintro e w' ⟨rfl, G1⟩; have GG := GG.trans G1)
      | (go_at_call 81; with_reducible refine (M _ GG).mono ?_; rintro e w' ⟨rfl, G1⟩; have GG := GG.trans G1)
      | (go_at_call 45; with_reducible refine (A _ GG).mono ?_; rintro e w' ⟨rfl, G1⟩; have GG := GG.trans G1)
      | (go_at_call 82; with_reducible refine (R _ GG).mono ?_; rintro e w' ⟨rfl, RR⟩))
        go_ret
        exact ⟨rfl, RTo.of_gw h.out GG⟩
      · have hm' : ¬ (0 : Int) < m := by omega
        simp only [hm, if_false]
        go_enter Try.func49, Try.ntmps49
        go_wp2_with (first
      | (go_at_call 47; with_reducible refine F.mono ?_; rintro e w' ⟨rfl, G1⟩; have GG := GG.trans G1)
      | (go_at_call 81; with_reducible refine (M _ GG).mono ?_; rintro e w' ⟨rfl, G1⟩; have GG := GG.trans G1)
      | (go_at_call 45; with_reducible refine (A _ GG).mono ?_; rintro e w' ⟨rfl, G1⟩; have GG := GG.trans G1)
      | (go_at_call 82; with_reducible refine (R _ GG).mono ?_; rintro e w' ⟨rfl, RR⟩))
        go_ret
        exact ⟨rfl, RTo.pre GG RR⟩
end Go.Proofs.Ytckoapfmfpmdgaa

namespace Go.Proofs.Ytckoapfmfpmdgaa
open Go.ChangeShapes Go.WideShapes Go.ChangeAt Go.RowKit Go.Joins
set_option linter.unusedVariables false
set_option linter.unusedSimpArgs false

theorem look_erase {a b : List UInt8} (hab : a ≠ b) : ∀ l : List Itm, look (l.eraseP (is b)) a = look l a
  | [] => rfl
  | i :: l => by
    by_cases hb : is b i = true
    · rw [List.eraseP_cons_of_pos hb]
      have ha : ¬ is a i = true := fun e => hab ((eq_of_beq e).symm.trans (eq_of_beq hb))
      unfold look
      rw [List.find?_cons_of_neg ha]
    · rw [List.eraseP_cons_of_neg hb]
      unfold look at *
      by_cases ha : is a i = true
      · rw [List.find?_cons_of_pos ha, List.find?_cons_of_pos ha]
      · rw [List.find?_cons_of_neg ha, List.find?_cons_of_neg ha]
        exact look_erase hab l
theorem Gw.frozen_at {W W' : World} (h : Gw W W') {g i : Nat} {v : Value} (hc : W.cell? ⟨g, i, none⟩ = some v) : W'.frozen? ⟨g, i, none⟩ = W.frozen? ⟨g, i, none⟩ := World.frozen?_of_block (h.block g (lt_cell hc))
/-- Another path is laid over the one at a. -/
theorem ren_to {B : Nat} {W w w3 : World} {g r cap k : Nat} {sl : Value} {s : St} {a : List UInt8} {i : Itm} (ch : Ch g sl W w) (h : RT B w g (.slice (some ⟨r, 0, none⟩) s.l.length cap) s) (hp : ∀ b, some r = some b → sl.ownBlock = some b ∨ W.heap.size ≤ b) (G : Gw w w3)
    (b : List UInt8) (hk : look s.l a = some i) (hix : ixT s.l a = k) : RTo B W g sl ⟨ren a b s.l, s.nx⟩ (w3.setCell ⟨r, k * 3, none⟩ (.string (bs b))) := by
  obtain ⟨k', h1, h2, _, h4⟩ := ix_some hk
  have hkk : k' = k := by rw [hix] at h1; omega
  subst hkk
  have hr := h.on G
  have hlt := (List.getElem?_eq_some_iff.1 h2).1
  have e1 : ren a b s.l = s.l.set k' ⟨b, i.d, i.n⟩ := by rw [h4, List.set_eq_take_append_cons_drop, if_pos hlt]
  have e2 : (iCs s.l).set (k' * 3) (.string (bs b)) = iCs (s.l.set k' ⟨b, i.d, i.n⟩) := flat_set iC_len s.l k' 0 i ⟨b, i.d, i.n⟩ h2 (by decide) rfl
  have hrg : r ≠ g := fun e => h.ne (by rw [e]; rfl)
  refine ⟨⟨G.os.trans ch.os, G.output.trans ch.output, ?_, fun q hq hqg hqs => ?_⟩, _, ⟨?_, ?_, h.ne, h.hB, ?_⟩, hp⟩
  · have := G.size; have := ch.size; simp; omega
  · have hqr : q ≠ r := fun e => by
      rcases hp q (by rw [e]) with k | k
      · exact hqs k
      · omega
    exact (set_other (p := ⟨r, _, none⟩) hqr).trans ((G.block q (Nat.lt_of_lt_of_le hq ch.size)).trans (ch.block q hq hqg hqs))
  · exact hr.hd.same (set_other (p := ⟨r, _, none⟩) (fun e => hrg e.symm))
  · have := hr.row.stored (k' * 3) (.string (bs b))
    rw [e2, ← e1] at this
    have e3 : (ren a b s.l).length = s.l.length := by rw [e1, List.length_set]
    show World.ownsRow _ _ _ _ _ (ren a b s.l).length _
    rw [e3]
    exact this.1
  · show (ren a b s.l).length ≤ 8
    rw [e1, List.length_set]; exact h.len
set_option maxRecDepth 100000 in
set_option maxHeartbeats 8000000 in
theorem rmove_any {B : Nat} {W : World} {g : Nat} {sl : Value} {s : St} (h : Hid (RT B W g sl s)) (a b : ByteArray) (ha : a.size ≤ 140737488351232) (hb : b.size ≤ 140737488351232) :
    Calls Try.prog 50 #[.pointer (some ⟨g, 0, none⟩), .string a, .string b] W fun e W' => e = .returned (mV (moveT s a.data.toList b.data.toList).1) ∧ RTo B W g sl (moveT s a.data.toList b.data.toList).2 W' := by
  have F := rfind_any h.out a ha
  have N := fun w => rname_any b w
  have V := fun w (k : Gw W w) => above_any (h.out.on k) b hb
  have A := fun w (k : Gw W w) => at_any (h.out.on k) b
  have hn : ∀ b w, (Op.unary .not (.bool b)).run Try.prog w = .ok (.bool (!b)) w := fun _ _ => rfl
  have GG : Gw W W := Gw.refl W
  unfold moveT
  unfold fV at F
  by_cases h0 : (findT s.l a.data.toList).2.2 = 0
  case neg =>
    have hne : ((findT s.l a.data.toList).2.2 == 0) = false := by simp [h0]
    simp only [h0, if_false, mV]
    generalize findT s.l a.data.toList = r at *
    obtain ⟨x, d, e⟩ := r
    simp only at h0 hne F ⊢
    clear h0
    go_enter Try.func50, Try.ntmps50
    go_wp2_with (first
      | (go_at_call 47; with_reducible refine F.mono ?_; rintro e w' ⟨rfl, G1⟩; have GG := GG.trans G1)
      | (go_at_call 44; with_reducible refine (N _).mono ?_; rintro e w' ⟨rfl, G1⟩; have GG := GG.trans G1)
      | (go_at_call 80; with_reducible refine (V _ GG).mono ?_; rintro e w' ⟨rfl, G1⟩; have GG := GG.trans G1)
      | (go_at_call 45; with_reducible refine (A _ GG).mono ?_; rintro e w' ⟨rfl, G1⟩; have GG := GG.trans G1)
      | (go_at_call 82; with_reducible refine (R _ GG).mono ?_; rintro e w' ⟨rfl, RR⟩))
    go_ret2
    exact ⟨rfl, RTo.of_gw h.out GG⟩
  obtain ⟨_, _, i, hk, he⟩ := find_zero h0
  rw [he] at F ⊢
  simp only [if_true]
  clear h0 he
  by_cases hd : i.d = true
  · simp only [hd, if_true, mV]
    rw [hd] at F
    go_enter Try.func50, Try.ntmps50
    go_wp2_with (first
      | (go_at_call 47; with_reducible refine F.mono ?_; rintro e w' ⟨rfl, G1⟩; have GG := GG.trans G1)
      | (go_at_call 44; with_reducible refine (N _).mono ?_; rintro e w' ⟨rfl, G1⟩; have GG := GG.trans G1)
      | (go_at_call 80; with_reducible refine (V _ GG).mono ?_; rintro e w' ⟨rfl, G1⟩; have GG := GG.trans G1)
      | (go_at_call 45; with_reducible refine (A _ GG).mono ?_; rintro e w' ⟨rfl, G1⟩; have GG := GG.trans G1)
      | (go_at_call 82; with_reducible refine (R _ GG).mono ?_; rintro e w' ⟨rfl, RR⟩))
    go_ret2
    exact ⟨rfl, RTo.of_gw h.out GG⟩
  have hd' : i.d = false := by simpa using hd
  rw [hd'] at F
  simp only [hd', Bool.false_eq_true, if_false]
  cases hnb : nameB b.data.toList with
  | false =>
    rw [hnb] at N
    simp only [Bool.false_eq_true, if_false, mV]
    clear hnb
    go_enter Try.func50, Try.ntmps50
    go_wp2_with (first
      | (go_at_call 47; with_reducible refine F.mono ?_; rintro e w' ⟨rfl, G1⟩; have GG := GG.trans G1)
      | (go_at_call 44; with_reducible refine (N _).mono ?_; rintro e w' ⟨rfl, G1⟩; have GG := GG.trans G1)
      | (go_at_call 80; with_reducible refine (V _ GG).mono ?_; rintro e w' ⟨rfl, G1⟩; have GG := GG.trans G1)
      | (go_at_call 45; with_reducible refine (A _ GG).mono ?_; rintro e w' ⟨rfl, G1⟩; have GG := GG.trans G1)
      | (go_at_call 82; with_reducible refine (R _ GG).mono ?_; rintro e w' ⟨rfl, RR⟩))
    go_ret2
    exact ⟨rfl, RTo.of_gw h.out GG⟩
  | true =>
    rw [hnb] at N
    simp only [if_true]
    clear hnb
    by_cases h1 : abv s.l b.data.toList = 0
    case neg =>
      simp only [h1, if_false, mV]
      have hne : (abv s.l b.data.toList == 0) = false := by simp [h1]
      generalize abv s.l b.data.toList = ee at *
      clear h1
      go_enter Try.func50, Try.ntmps50
      go_wp2_with (first
      | (go_at_call 47; with_reducible refine F.mono ?_; rintro e w' ⟨rfl, G1⟩; have GG := GG.trans G1)
      | (go_at_call 44; with_reducible refine (N _).mono ?_; rintro e w' ⟨rfl, G1⟩; have GG := GG.trans G1)
      | (go_at_call 80; with_reducible refine (V _ GG).mono ?_; rintro e w' ⟨rfl, G1⟩; have GG := GG.trans G1)
      | (go_at_call 45; with_reducible refine (A _ GG).mono ?_; rintro e w' ⟨rfl, G1⟩; have GG := GG.trans G1)
      | (go_at_call 82; with_reducible refine (R _ GG).mono ?_; rintro e w' ⟨rfl, RR⟩))
      go_ret2
      exact ⟨rfl, RTo.of_gw h.out GG⟩
    rw [h1] at V
    simp only [h1, if_true]
    clear h1
    obtain ⟨y, hy⟩ : ∃ y : Bool, y = (a.toList == b.toList) := ⟨_, rfl⟩
    have hy' := hy.symm
    have hyy : (a.data.toList = b.data.toList) = (y = true) := by rw [hy, str_list, str_list]; simp
    cases y with
    | true =>
      simp only [hyy, if_true, mV]
      clear hy hyy
      go_enter Try.func50, Try.ntmps50
      go_wp2_with (first
      | (go_at_call 47; with_reducible refine F.mono ?_; rintro e w' ⟨rfl, G1⟩; have GG := GG.trans G1)
      | (go_at_call 44; with_reducible refine (N _).mono ?_; rintro e w' ⟨rfl, G1⟩; have GG := GG.trans G1)
      | (go_at_call 80; with_reducible refine (V _ GG).mono ?_; rintro e w' ⟨rfl, G1⟩; have GG := GG.trans G1)
      | (go_at_call 45; with_reducible refine (A _ GG).mono ?_; rintro e w' ⟨rfl, G1⟩; have GG := GG.trans G1)
      | (go_at_call 82; with_reducible refine (R _ GG).mono ?_; rintro e w' ⟨rfl, RR⟩))
      go_ret2
      exact ⟨rfl, RTo.of_gw h.out GG⟩
    | false =>
      have hab : Hid (¬ a.data.toList = b.data.toList) := by show ¬ _; rw [hyy]; decide
      simp only [hyy, Bool.false_eq_true, if_false]
      clear hy hyy
      cases hkb : look s.l b.data.toList with
      | none =>
        rw [ix_none hkb] at A
        simp only [mV]
        clear hkb
        go_enter Try.func50, Try.ntmps50
        go_upto_region 20 with (first
              | (go_at_call 47; with_reducible refine F.mono ?_; rintro e w' ⟨rfl, G1⟩; have GG := GG.trans G1)
              | (go_at_call 44; with_reducible refine (N _).mono ?_; rintro e w' ⟨rfl, G1⟩; have GG := GG.trans G1)
              | (go_at_call 80; with_reducible refine (V _ GG).mono ?_; rintro e w' ⟨rfl, G1⟩; have GG := GG.trans G1)
              | (go_at_call 45; with_reducible refine (A _ GG).mono ?_; rintro e w' ⟨rfl, G1⟩; have GG := GG.trans G1)
              | (go_at_call 82; with_reducible refine (R _ GG).mono ?_; rintro e w' ⟨rfl, RR⟩))
        have HX : Hid (RT B w' g sl s) := h.out.on GG
        have GG0 := Gw.refl W
        have hch : Ch g sl W w' := (RTo.of_gw h.out GG).ch
        obtain ⟨k2, r2, cap2, hix2, hki2, hlt2, rfl, hcap2, hcm2, E0, E1, E2⟩ := sl_look HX.out.sl hk
        have A2 := fun w (q : Gw w' w) => at_any (HX.out.on q) a
        rw [hix2] at A2
        have y0 := (box0 HX.out.hd).1
        have yf := HX.out.row.frozenAt (k2 * 3)
        have j0 : (0 : Int) ≤ (k2 : Int) := by omega
        have j1 : ((k2 : Int)) < s.l.length := by omega
        have HREN := Lib.hid (fun w3 (q : Gw w' w3) => ren_to hch HX.out (fun b hb => .inl hb) q b.data.toList hk hix2)
        clear hix2 hki2
        go_region_law (rw [if_pos (by rfl)]; go_simp; go_at_call 45; with_reducible refine (A2 _ (Gw.refl w').drew).mono ?_; rintro e w3 ⟨rfl, G3⟩; have G4 : Gw w' w3 := ((Gw.refl w').drew).trans G3; have y3 := G4.cell y0; have y4 := G4.cell E0; have y5 := (Gw.frozen_at G4 E0).trans yf)
        all_goals (
          have HR2 := Lib.hid (HREN.out _ G4)
          go_wp2
          go_ret2
          refine ⟨rfl, ?_⟩
          have := RTo.pre GG0 HR2.out
          rw [bs_self] at this
          exact this)
      | some j =>
        obtain ⟨k, r, cap, hix, hki, hlt, rfl, hcap, hcm, D0, D1, D2⟩ := sl_look h.out.sl hkb
        obtain ⟨k', hix', _, hera, _⟩ := ix_some hkb
        have hkk : k' = k := by rw [hix] at hix'; omega
        subst hkk
        have C0 := (box0 h.out.hd).1
        rw [hix] at A
        have hk0 : (0 : Int) ≤ (k' : Int) := by omega
        have R := fun w (q : Gw W w) => without_any (h.out.on q) k' hlt
        have hk1 := (look_erase hab.out s.l).trans hk
        simp only []
        rw [hera] at hk1 ⊢
        clear hix hix' hera hkb D0 hki
        generalize j.d = d at *
        generalize j.n = x at *
        cases d with
        | true =>
          simp only [if_true, mV]
          go_enter Try.func50, Try.ntmps50
          go_wp2_with (first
      | (go_at_call 47; with_reducible refine F.mono ?_; rintro e w' ⟨rfl, G1⟩; have GG := GG.trans G1)
      | (go_at_call 44; with_reducible refine (N _).mono ?_; rintro e w' ⟨rfl, G1⟩; have GG := GG.trans G1)
      | (go_at_call 80; with_reducible refine (V _ GG).mono ?_; rintro e w' ⟨rfl, G1⟩; have GG := GG.trans G1)
      | (go_at_call 45; with_reducible refine (A _ GG).mono ?_; rintro e w' ⟨rfl, G1⟩; have GG := GG.trans G1; have c0 := GG.cell C0; have d1 := GG.cell D1; have d2 := GG.cell D2)
      | (go_at_call 82; with_reducible refine (R _ GG).mono ?_; rintro e w' ⟨rfl, RR⟩))
          go_ret2
          exact ⟨rfl, RTo.of_gw h.out GG⟩
        | false =>
          simp only [Bool.false_eq_true, if_false, mV]
          obtain ⟨s1, hs1⟩ : ∃ s1 : St, s1 = ⟨s.l.take k' ++ s.l.drop (k' + 1), s.nx⟩ := ⟨_, rfl⟩
          have e1 : (⟨ren a.data.toList b.data.toList (s.l.take k' ++ s.l.drop (k' + 1)), s.nx⟩ : St) = ⟨ren a.data.toList b.data.toList s1.l, s1.nx⟩ := by rw [hs1]
          have e2 : look s1.l a.data.toList = some i := by rw [hs1]; exact hk1
          rw [e1]
          simp only [← hs1] at R
          clear e1 hk1 hs1
          go_enter Try.func50, Try.ntmps50
          go_upto_region 20 with (first
                | (go_at_call 47; with_reducible refine F.mono ?_; rintro e w' ⟨rfl, G1⟩; have GG := GG.trans G1)
                | (go_at_call 44; with_reducible refine (N _).mono ?_; rintro e w' ⟨rfl, G1⟩; have GG := GG.trans G1)
                | (go_at_call 80; with_reducible refine (V _ GG).mono ?_; rintro e w' ⟨rfl, G1⟩; have GG := GG.trans G1)
                | (go_at_call 45; with_reducible refine (A _ GG).mono ?_; rintro e w' ⟨rfl, G1⟩; have GG := GG.trans G1; have c0 := GG.cell C0; have d1 := GG.cell D1; have d2 := GG.cell D2)
                | (go_at_call 82; with_reducible refine (R _ GG).mono ?_; rintro e w' ⟨rfl, RR⟩))
          obtain ⟨sl2, HX0, hp2⟩ := RR.ex
          have HX := Lib.hid HX0
          clear HX0
          have GG0 := GG
          have hch := RR.ch
          obtain ⟨k2, r2, cap2, hix2, hki2, hlt2, rfl, hcap2, hcm2, E0, E1, E2⟩ := sl_look HX.out.sl e2
          have A2 := fun w (q : Gw w' w) => at_any (HX.out.on q) a
          rw [hix2] at A2
          have y0 := (box0 HX.out.hd).1
          have yf := HX.out.row.frozenAt (k2 * 3)
          have j0 : (0 : Int) ≤ (k2 : Int) := by omega
          have j1 : ((k2 : Int)) < s1.l.length := by omega
          have HREN := Lib.hid (fun w3 (q : Gw w' w3) => ren_to hch HX.out hp2 q b.data.toList e2 hix2)
          clear hix2 hki2
          go_region_law (rw [if_pos (by rfl)]; go_simp; go_at_call 45; with_reducible refine (A2 _ (Gw.refl w').drew).mono ?_; rintro e w3 ⟨rfl, G3⟩; have G4 : Gw w' w3 := ((Gw.refl w').drew).trans G3; have y3 := G4.cell y0; have y4 := G4.cell E0; have y5 := (Gw.frozen_at G4 E0).trans yf)
          all_goals (
            have HR2 := Lib.hid (HREN.out _ G4)
            go_wp2
            go_ret2
            refine ⟨rfl, ?_⟩
            have := RTo.pre GG0 HR2.out
            rw [bs_self] at this
            exact this)
end Go.Proofs.Ytckoapfmfpmdgaa
