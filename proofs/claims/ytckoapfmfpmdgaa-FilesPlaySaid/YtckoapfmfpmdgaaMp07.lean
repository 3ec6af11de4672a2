/-
  Parts of the proof, joined: TreeK.
-/
import Derived.Test.YtckoapfmfpmdgaaMp06

namespace Go.Proofs.Ytckoapfmfpmdgaa
open Go.ChangeShapes Go.WideShapes Go.ChangeAt Go.RowKit Go.Joins
set_option linter.unusedVariables false
set_option linter.unusedSimpArgs false

theorem RTo.pre {B : Nat} {W w W' : World} {g : Nat} {sl : Value} {s' : St} (G : Gw W w) (h : RTo B w g sl s' W') : RTo B W g sl s' W' := by
  obtain ⟨sl', h1, h2⟩ := h.ex
  refine ⟨⟨h.ch.os.trans G.os, h.ch.output.trans G.output, Nat.le_trans G.size h.ch.size, fun k hk a b => (h.ch.block k (Nat.lt_of_lt_of_le hk G.size) a b).trans (G.block k hk)⟩, sl', h1, fun b hb => (h2 b hb).imp id (fun k => Nat.le_trans G.size k)⟩
/-- What two numbers are answered. -/
def mV (r : Int × Int) : Value := .tuple #[.int .i64 r.1, .int .u16 r.2]
/-- Behind an append of one, and two stores. -/
theorem one_app {B : Nat} {w w1 p2 : World} {g : Nat} {sl v2 : Value} {s : St} {i : Itm} (h : RT B w g sl s) (G : Gw w w1) (gr2 : w1.grownBy p2 sl.ownBlock) (at2 : v2.ownBlock = sl.ownBlock ∨ v2.ownBlock = some w1.heap.size)
    (own2 : p2.ownsRow B 95 3 v2 (s.l.length + 1) (iCs s.l ++ iC i)) (hl : s.l.length + 1 ≤ 8) (n : Int) :
    RTo B w g sl ⟨s.l ++ [i], n⟩ ((p2.setCell ⟨g, 0, none⟩ v2).setCell ⟨g, 1, none⟩ (.int .i64 n)) := by
  have hg := h.hd.lt
  have z1 : w.heap.size ≤ w1.heap.size := G.size
  have z2 : w1.heap.size ≤ p2.heap.size := gr2.size
  have e2 : ∀ k, k < w.heap.size → sl.ownBlock ≠ some k → p2.heap[k]? = w.heap[k]? := fun k hk hn => (gr2.block k (by omega) (fun e => hn e.symm)).trans (G.block k hk)
  have hv2 : ∀ b, v2.ownBlock = some b → sl.ownBlock = some b ∨ w.heap.size ≤ b := fun b hb => by
    rcases at2 with k | k
    · exact .inl (k ▸ hb)
    · rw [k] at hb; cases hb; exact .inr z1
  have hng : v2.ownBlock ≠ some g := fun e => by
    rcases hv2 g e with k | k
    · exact h.ne k
    · omega
  refine ⟨⟨gr2.os.trans G.os, gr2.output.trans G.output, ?_, fun k hk hkg hs => ?_⟩, v2, ⟨?_, ?_, hng, h.hB, by simpa using hl⟩, hv2⟩
  · simp; omega
  · exact (set_other (p := ⟨g, 1, none⟩) hkg).trans ((set_other (p := ⟨g, 0, none⟩) hkg).trans (e2 k hk hs))
  · exact (((h.hd.same (e2 g hg h.ne)).put 0 v2).put 1 (.int .i64 n))
  · refine ⟨iCs_len _, ?_⟩
    show _ ∨ ∃ g cap cur, _ ∧ _ ∧ _ ∧ _ ∧ _ ∧ _ ∧ _ = iCs (s.l ++ [i])
    have e1 : iCs (s.l ++ [i]) = iCs s.l ++ iC i := by rw [iCs_app]; simp [iCs]
    rw [e1, show (s.l ++ [i]).length = s.l.length + 1 by simp]
    rcases own2.2 with h0 | ⟨b, cap, cur, h0, h1, h2, h3⟩
    · exact .inl h0
    · have hbg : b ≠ g := fun e => hng (by rw [h0]; simp [Value.ownBlock, e])
      exact .inr ⟨b, cap, cur, h0, h1, (set_other (p := ⟨g, 1, none⟩) hbg).trans ((set_other (p := ⟨g, 0, none⟩) hbg).trans h2), h3⟩
set_option maxRecDepth 100000 in
set_option maxHeartbeats 8000000 in
theorem rmake_any {B : Nat} {W : World} {g : Nat} {sl : Value} {s : St} (h : Hid (RT B W g sl s)) (p : ByteArray) (hp : p.size ≤ 140737488351232) (dir : Bool) (hnx : 0 ≤ s.nx) (hnx2 : s.nx ≤ 4611686018427387904) :
    Calls Try.prog 48 #[.pointer (some ⟨g, 0, none⟩), .string p, .bool dir] W fun e W' => e = .returned (mV (makeT s p.data.toList dir).1) ∧ RTo B W g sl (makeT s p.data.toList dir).2 W' := by
  obtain ⟨i0, hi1, hi2, hi3, hi4⟩ := info_item
  have HI := Lib.hid (And.intro hi1 (And.intro hi2 (And.intro hi3 hi4)))
  clear hi1 hi2 hi3 hi4
  have F := fun w => rname_any p w
  have S := fun w => rsplit_any p w hp
  have T := fun w (k : Gw W w) => above_any (h.out.on k) p hp
  have A := fun w (k : Gw W w) => at_any (h.out.on k) p
  have hn : ∀ b w, (Op.unary .not (.bool b)).run Try.prog w = .ok (.bool (!b)) w := fun _ _ => rfl
  have hm8 : Hid (maxLen = 9223372036854775807) := rfl
  have GG : Gw W W := Gw.refl W
  unfold makeT
  cases hb : nameB p.data.toList with
  | false =>
    rw [hb] at F
    simp only [Bool.false_eq_true, if_false, mV]
    clear hb T A S
    go_enter Try.func48, Try.ntmps48
    go_wp2_with (first
      | (go_at_call 44; with_reducible refine (F _).mono ?_; rintro e w' ⟨rfl, G1⟩; have GG := GG.trans G1)
      | (go_at_call 46; with_reducible refine (S _).mono ?_; rintro e w' ⟨rfl, G1⟩; have GG := GG.trans G1)
      | (go_at_call 80; with_reducible refine (T _ GG).mono ?_; rintro e w' ⟨rfl, G1⟩; have GG := GG.trans G1)
      | (go_at_call 45; with_reducible refine (A _ GG).mono ?_; rintro e w' ⟨rfl, G1⟩; have GG := GG.trans G1; have HX := Lib.hid (h.out.on GG); have c0 := (box0 HX.out.hd).1; have f0 := (box0 HX.out.hd).2; have c1 := (box1 HX.out.hd).1; have f1 := (box1 HX.out.hd).2))
    go_ret2
    exact ⟨rfl, RTo.of_gw h.out GG⟩
  | true =>
    rw [hb] at F
    simp only [if_true]
    by_cases h0 : abv s.l p.data.toList = 0
    case neg =>
      simp only [h0, if_false, mV]
      have hne : (abv s.l p.data.toList == 0) = false := by simp [h0]
      generalize abv s.l p.data.toList = ee at *
      clear h0 hb
      go_enter Try.func48, Try.ntmps48
      go_wp2_with (first
      | (go_at_call 44; with_reducible refine (F _).mono ?_; rintro e w' ⟨rfl, G1⟩; have GG := GG.trans G1)
      | (go_at_call 46; with_reducible refine (S _).mono ?_; rintro e w' ⟨rfl, G1⟩; have GG := GG.trans G1)
      | (go_at_call 80; with_reducible refine (T _ GG).mono ?_; rintro e w' ⟨rfl, G1⟩; have GG := GG.trans G1)
      | (go_at_call 45; with_reducible refine (A _ GG).mono ?_; rintro e w' ⟨rfl, G1⟩; have GG := GG.trans G1; have HX := Lib.hid (h.out.on GG); have c0 := (box0 HX.out.hd).1; have f0 := (box0 HX.out.hd).2; have c1 := (box1 HX.out.hd).1; have f1 := (box1 HX.out.hd).2))
      go_ret2
      exact ⟨rfl, RTo.of_gw h.out GG⟩
    simp only [h0, if_true]
    rw [h0] at T
    clear h0
    cases hk : look s.l p.data.toList with
    | some i =>
      obtain ⟨k, hix, _⟩ := ix_some hk
      rw [hix] at A
      have hk0 : (0 : Int) ≤ (k : Int) := by omega
      simp only [mV]
      clear hk hix hb
      go_enter Try.func48, Try.ntmps48
      go_wp2_with (first
      | (go_at_call 44; with_reducible refine (F _).mono ?_; rintro e w' ⟨rfl, G1⟩; have GG := GG.trans G1)
      | (go_at_call 46; with_reducible refine (S _).mono ?_; rintro e w' ⟨rfl, G1⟩; have GG := GG.trans G1)
      | (go_at_call 80; with_reducible refine (T _ GG).mono ?_; rintro e w' ⟨rfl, G1⟩; have GG := GG.trans G1)
      | (go_at_call 45; with_reducible refine (A _ GG).mono ?_; rintro e w' ⟨rfl, G1⟩; have GG := GG.trans G1; have HX := Lib.hid (h.out.on GG); have c0 := (box0 HX.out.hd).1; have f0 := (box0 HX.out.hd).2; have c1 := (box1 HX.out.hd).1; have f1 := (box1 HX.out.hd).2))
      go_ret2
      exact ⟨rfl, RTo.of_gw h.out GG⟩
    | none =>
      rw [ix_none hk] at A
      clear hk
      obtain ⟨q, hq⟩ : ∃ q, q = spl p.data.toList := ⟨_, rfl⟩
      rw [← hq] at S
      simp only [← hq]
      obtain ⟨q1, q2⟩ := q
      clear hq hb
      obtain ⟨y, hy⟩ : ∃ y : Bool, y = (bs q1).toList.isEmpty := ⟨_, rfl⟩
      have hy' := hy.symm
      have hq1 : (q1 ≠ []) = (y = false) := by rw [hy, bs_list]; cases q1 <;> simp
      simp only [hq1]
      clear hy hq1
      by_cases hd : dir = true ∧ y = false
      · obtain ⟨rfl, rfl⟩ := hd
        simp only [and_self, if_true, mV]
        go_enter Try.func48, Try.ntmps48
        go_wp2_with (first
      | (go_at_call 44; with_reducible refine (F _).mono ?_; rintro e w' ⟨rfl, G1⟩; have GG := GG.trans G1)
      | (go_at_call 46; with_reducible refine (S _).mono ?_; rintro e w' ⟨rfl, G1⟩; have GG := GG.trans G1)
      | (go_at_call 80; with_reducible refine (T _ GG).mono ?_; rintro e w' ⟨rfl, G1⟩; have GG := GG.trans G1)
      | (go_at_call 45; with_reducible refine (A _ GG).mono ?_; rintro e w' ⟨rfl, G1⟩; have GG := GG.trans G1; have HX := Lib.hid (h.out.on GG); have c0 := (box0 HX.out.hd).1; have f0 := (box0 HX.out.hd).2; have c1 := (box1 HX.out.hd).1; have f1 := (box1 HX.out.hd).2))
        go_ret2
        exact ⟨rfl, RTo.of_gw h.out GG⟩
      · simp only [hd, if_false]
        by_cases h8 : 8 ≤ s.l.length
        · simp only [h8, if_true, mV]
          rcases h.out.sl.form with ⟨_, hz⟩ | ⟨r, cap, rfl, _⟩
          · rw [hz] at h8; simp at h8
          have h8' : (8 : Int) ≤ s.l.length := by omega
          cases dir with
          | true =>
            cases y with
            | true =>
              clear hd
              go_enter Try.func48, Try.ntmps48
              go_wp2_with (first
      | (go_at_call 44; with_reducible refine (F _).mono ?_; rintro e w' ⟨rfl, G1⟩; have GG := GG.trans G1)
      | (go_at_call 46; with_reducible refine (S _).mono ?_; rintro e w' ⟨rfl, G1⟩; have GG := GG.trans G1)
      | (go_at_call 80; with_reducible refine (T _ GG).mono ?_; rintro e w' ⟨rfl, G1⟩; have GG := GG.trans G1)
      | (go_at_call 45; with_reducible refine (A _ GG).mono ?_; rintro e w' ⟨rfl, G1⟩; have GG := GG.trans G1; have HX := Lib.hid (h.out.on GG); have c0 := (box0 HX.out.hd).1; have f0 := (box0 HX.out.hd).2; have c1 := (box1 HX.out.hd).1; have f1 := (box1 HX.out.hd).2))
              go_ret2
              exact ⟨rfl, RTo.of_gw h.out GG⟩
            | false =>
              exact absurd ⟨rfl, rfl⟩ hd
          | false =>
            cases y with
            | true =>
              clear hd
              go_enter Try.func48, Try.ntmps48
              go_wp2_with (first
      | (go_at_call 44; with_reducible refine (F _).mono ?_; rintro e w' ⟨rfl, G1⟩; have GG := GG.trans G1)
      | (go_at_call 46; with_reducible refine (S _).mono ?_; rintro e w' ⟨rfl, G1⟩; have GG := GG.trans G1)
      | (go_at_call 80; with_reducible refine (T _ GG).mono ?_; rintro e w' ⟨rfl, G1⟩; have GG := GG.trans G1)
      | (go_at_call 45; with_reducible refine (A _ GG).mono ?_; rintro e w' ⟨rfl, G1⟩; have GG := GG.trans G1; have HX := Lib.hid (h.out.on GG); have c0 := (box0 HX.out.hd).1; have f0 := (box0 HX.out.hd).2; have c1 := (box1 HX.out.hd).1; have f1 := (box1 HX.out.hd).2))
              go_ret2
              exact ⟨rfl, RTo.of_gw h.out GG⟩
            | false =>
              clear hd
              go_enter Try.func48, Try.ntmps48
              go_wp2_with (first
      | (go_at_call 44; with_reducible refine (F _).mono ?_; rintro e w' ⟨rfl, G1⟩; have GG := GG.trans G1)
      | (go_at_call 46; with_reducible refine (S _).mono ?_; rintro e w' ⟨rfl, G1⟩; have GG := GG.trans G1)
      | (go_at_call 80; with_reducible refine (T _ GG).mono ?_; rintro e w' ⟨rfl, G1⟩; have GG := GG.trans G1)
      | (go_at_call 45; with_reducible refine (A _ GG).mono ?_; rintro e w' ⟨rfl, G1⟩; have GG := GG.trans G1; have HX := Lib.hid (h.out.on GG); have c0 := (box0 HX.out.hd).1; have f0 := (box0 HX.out.hd).2; have c1 := (box1 HX.out.hd).1; have f1 := (box1 HX.out.hd).2))
              go_ret2
              exact ⟨rfl, RTo.of_gw h.out GG⟩
        · simp only [h8, if_false, mV]
          have h8' : ¬ (8 : Int) ≤ s.l.length := by omega
          have w1 : IntKind.i64.wrap (s.nx + 1) = s.nx + 1 := wrap_in (by omega) (by omega)
          have w2 : IntKind.i64.wrap s.nx = s.nx := wrap_in (by omega) (by omega)
          rcases h.out.sl.form with ⟨rfl, hz⟩ | ⟨r, cap, rfl, _⟩
          · have hz' : s.l.length = 0 := by rw [hz]; rfl
            cases dir with
            | true =>
              cases y with
              | true =>
                clear hd
                go_enter Try.func48, Try.ntmps48
                go_upto_region 13 with (first
                                      | (go_at_call 44; with_reducible refine (F _).mono ?_; rintro e w' ⟨rfl, G1⟩; have GG := GG.trans G1)
                                      | (go_at_call 46; with_reducible refine (S _).mono ?_; rintro e w' ⟨rfl, G1⟩; have GG := GG.trans G1)
                                      | (go_at_call 80; with_reducible refine (T _ GG).mono ?_; rintro e w' ⟨rfl, G1⟩; have GG := GG.trans G1)
                                      | (go_at_call 45; with_reducible refine (A _ GG).mono ?_; rintro e w' ⟨rfl, G1⟩; have GG := GG.trans G1; have HX := Lib.hid (h.out.on GG); have c0 := (box0 HX.out.hd).1; have f0 := (box0 HX.out.hd).2; have c1 := (box1 HX.out.hd).1; have f1 := (box1 HX.out.hd).2))
                have HO := (Gw.alloc w' (.cells #[.string p, .bool true, .int .i64 s.nx] 95))
                have e0 : (w'.alloc (.cells #[.string p, .bool true, .int .i64 s.nx] 95)).drew.cell? ⟨g, 0, none⟩ = some (.slice none 0 0) := HO.cell c0
                have e1 : (w'.alloc (.cells #[.string p, .bool true, .int .i64 s.nx] 95)).drew.cell? ⟨g, 1, none⟩ = some (.int .i64 s.nx) := HO.cell c1
                have hgs : Hid (g < w'.heap.size) := HX.out.hd.lt
                go_region_law (refine step_append_own _ (by rfl) _ _ _ (by rfl) B 95 i0 _ 3 32 Try.underlying37 HI.out.1 HI.out.2.1 HI.out.2.2.1 HI.out.2.2.2 rfl (by omega) (.slice none 0 0) s.l.length (iCs s.l) (by rfl) ((HX.out.row.alloc _).drew) ⟨w'.heap.size, 0, none⟩ 1 1 [.string p, .bool true, .int .i64 s.nx] (by rfl) (by rfl) (World.news_of_block (cs := #[.string p, .bool true, .int .i64 s.nx]) (t := 95) (fr := (0, 0)) (heap_alloc_new w' _)) (by simp [Value.oneCell']) (by have := hm8.out; omega) (by omega) (by have := HX.out.hB; have := hgs.out; simp; omega) ?_; intro v2 p2 own2 gr2 at2; obtain ⟨A2, m2, c2, rfl⟩ := own_form own2; have HP : Hid (Has p2 g 39 #[(.slice none 0 0), .int .i64 s.nx]) := (HX.out.hd.on HO).same (gr2.block g (by have := hgs.out; simp; omega) (fun e => HX.out.ne e.symm)); have e2 := (box0 HP.out).1; have e3 := (box0 HP.out).2)
                all_goals (
                  have HP0 := (HP.out.put 0 (.slice A2 m2 c2))
                  have b1 := (box1 HP0).1
                  have b2 := (box1 HP0).2
                  have HP1 := (HP0.put 1 (.int .i64 (s.nx + 1)))
                  have b3 := (box1 HP1).1
                  have e4 : iC ⟨p.data.toList, true, s.nx⟩ = [.string p, .bool true, .int .i64 s.nx] := by show [Value.string (bs p.data.toList), _, _] = _; rw [bs_self]
                  have HF := Lib.hid (RTo.pre GG (one_app (i := ⟨p.data.toList, true, s.nx⟩) HX.out HO.drew gr2 at2 (by rw [e4]; exact own2) (by omega) (s.nx + 1)))
                  clear e4
                  clear HP0 HP1 e0 e1
                  go_wp2
                  go_ret2
                  exact ⟨rfl, HF.out⟩)
              | false =>
                exact absurd ⟨rfl, rfl⟩ hd
            | false =>
              cases y with
              | true =>
                clear hd
                go_enter Try.func48, Try.ntmps48
                go_upto_region 13 with (first
                                      | (go_at_call 44; with_reducible refine (F _).mono ?_; rintro e w' ⟨rfl, G1⟩; have GG := GG.trans G1)
                                      | (go_at_call 46; with_reducible refine (S _).mono ?_; rintro e w' ⟨rfl, G1⟩; have GG := GG.trans G1)
                                      | (go_at_call 80; with_reducible refine (T _ GG).mono ?_; rintro e w' ⟨rfl, G1⟩; have GG := GG.trans G1)
                                      | (go_at_call 45; with_reducible refine (A _ GG).mono ?_; rintro e w' ⟨rfl, G1⟩; have GG := GG.trans G1; have HX := Lib.hid (h.out.on GG); have c0 := (box0 HX.out.hd).1; have f0 := (box0 HX.out.hd).2; have c1 := (box1 HX.out.hd).1; have f1 := (box1 HX.out.hd).2))
                have HO := (Gw.alloc w' (.cells #[.string p, .bool false, .int .i64 s.nx] 95))
                have e0 : (w'.alloc (.cells #[.string p, .bool false, .int .i64 s.nx] 95)).drew.cell? ⟨g, 0, none⟩ = some (.slice none 0 0) := HO.cell c0
                have e1 : (w'.alloc (.cells #[.string p, .bool false, .int .i64 s.nx] 95)).drew.cell? ⟨g, 1, none⟩ = some (.int .i64 s.nx) := HO.cell c1
                have hgs : Hid (g < w'.heap.size) := HX.out.hd.lt
                go_region_law (refine step_append_own _ (by rfl) _ _ _ (by rfl) B 95 i0 _ 3 32 Try.underlying37 HI.out.1 HI.out.2.1 HI.out.2.2.1 HI.out.2.2.2 rfl (by omega) (.slice none 0 0) s.l.length (iCs s.l) (by rfl) ((HX.out.row.alloc _).drew) ⟨w'.heap.size, 0, none⟩ 1 1 [.string p, .bool false, .int .i64 s.nx] (by rfl) (by rfl) (World.news_of_block (cs := #[.string p, .bool false, .int .i64 s.nx]) (t := 95) (fr := (0, 0)) (heap_alloc_new w' _)) (by simp [Value.oneCell']) (by have := hm8.out; omega) (by omega) (by have := HX.out.hB; have := hgs.out; simp; omega) ?_; intro v2 p2 own2 gr2 at2; obtain ⟨A2, m2, c2, rfl⟩ := own_form own2; have HP : Hid (Has p2 g 39 #[(.slice none 0 0), .int .i64 s.nx]) := (HX.out.hd.on HO).same (gr2.block g (by have := hgs.out; simp; omega) (fun e => HX.out.ne e.symm)); have e2 := (box0 HP.out).1; have e3 := (box0 HP.out).2)
                all_goals (
                  have HP0 := (HP.out.put 0 (.slice A2 m2 c2))
                  have b1 := (box1 HP0).1
                  have b2 := (box1 HP0).2
                  have HP1 := (HP0.put 1 (.int .i64 (s.nx + 1)))
                  have b3 := (box1 HP1).1
                  have e4 : iC ⟨p.data.toList, false, s.nx⟩ = [.string p, .bool false, .int .i64 s.nx] := by show [Value.string (bs p.data.toList), _, _] = _; rw [bs_self]
                  have HF := Lib.hid (RTo.pre GG (one_app (i := ⟨p.data.toList, false, s.nx⟩) HX.out HO.drew gr2 at2 (by rw [e4]; exact own2) (by omega) (s.nx + 1)))
                  clear e4
                  clear HP0 HP1 e0 e1
                  go_wp2
                  go_ret2
                  exact ⟨rfl, HF.out⟩)
              | false =>
                clear hd
                go_enter Try.func48, Try.ntmps48
                go_upto_region 13 with (first
                                      | (go_at_call 44; with_reducible refine (F _).mono ?_; rintro e w' ⟨rfl, G1⟩; have GG := GG.trans G1)
                                      | (go_at_call 46; with_reducible refine (S _).mono ?_; rintro e w' ⟨rfl, G1⟩; have GG := GG.trans G1)
                                      | (go_at_call 80; with_reducible refine (T _ GG).mono ?_; rintro e w' ⟨rfl, G1⟩; have GG := GG.trans G1)
                                      | (go_at_call 45; with_reducible refine (A _ GG).mono ?_; rintro e w' ⟨rfl, G1⟩; have GG := GG.trans G1; have HX := Lib.hid (h.out.on GG); have c0 := (box0 HX.out.hd).1; have f0 := (box0 HX.out.hd).2; have c1 := (box1 HX.out.hd).1; have f1 := (box1 HX.out.hd).2))
                have HO := (Gw.alloc w' (.cells #[.string p, .bool false, .int .i64 s.nx] 95))
                have e0 : (w'.alloc (.cells #[.string p, .bool false, .int .i64 s.nx] 95)).drew.cell? ⟨g, 0, none⟩ = some (.slice none 0 0) := HO.cell c0
                have e1 : (w'.alloc (.cells #[.string p, .bool false, .int .i64 s.nx] 95)).drew.cell? ⟨g, 1, none⟩ = some (.int .i64 s.nx) := HO.cell c1
                have hgs : Hid (g < w'.heap.size) := HX.out.hd.lt
                go_region_law (refine step_append_own _ (by rfl) _ _ _ (by rfl) B 95 i0 _ 3 32 Try.underlying37 HI.out.1 HI.out.2.1 HI.out.2.2.1 HI.out.2.2.2 rfl (by omega) (.slice none 0 0) s.l.length (iCs s.l) (by rfl) ((HX.out.row.alloc _).drew) ⟨w'.heap.size, 0, none⟩ 1 1 [.string p, .bool false, .int .i64 s.nx] (by rfl) (by rfl) (World.news_of_block (cs := #[.string p, .bool false, .int .i64 s.nx]) (t := 95) (fr := (0, 0)) (heap_alloc_new w' _)) (by simp [Value.oneCell']) (by have := hm8.out; omega) (by omega) (by have := HX.out.hB; have := hgs.out; simp; omega) ?_; intro v2 p2 own2 gr2 at2; obtain ⟨A2, m2, c2, rfl⟩ := own_form own2; have HP : Hid (Has p2 g 39 #[(.slice none 0 0), .int .i64 s.nx]) := (HX.out.hd.on HO).same (gr2.block g (by have := hgs.out; simp; omega) (fun e => HX.out.ne e.symm)); have e2 := (box0 HP.out).1; have e3 := (box0 HP.out).2)
                all_goals (
                  have HP0 := (HP.out.put 0 (.slice A2 m2 c2))
                  have b1 := (box1 HP0).1
                  have b2 := (box1 HP0).2
                  have HP1 := (HP0.put 1 (.int .i64 (s.nx + 1)))
                  have b3 := (box1 HP1).1
                  have e4 : iC ⟨p.data.toList, false, s.nx⟩ = [.string p, .bool false, .int .i64 s.nx] := by show [Value.string (bs p.data.toList), _, _] = _; rw [bs_self]
                  have HF := Lib.hid (RTo.pre GG (one_app (i := ⟨p.data.toList, false, s.nx⟩) HX.out HO.drew gr2 at2 (by rw [e4]; exact own2) (by omega) (s.nx + 1)))
                  clear e4
                  clear HP0 HP1 e0 e1
                  go_wp2
                  go_ret2
                  exact ⟨rfl, HF.out⟩)
          · skip
            cases dir with
            | true =>
              cases y with
              | true =>
                clear hd
                go_enter Try.func48, Try.ntmps48
                go_upto_region 13 with (first
                                      | (go_at_call 44; with_reducible refine (F _).mono ?_; rintro e w' ⟨rfl, G1⟩; have GG := GG.trans G1)
                                      | (go_at_call 46; with_reducible refine (S _).mono ?_; rintro e w' ⟨rfl, G1⟩; have GG := GG.trans G1)
                                      | (go_at_call 80; with_reducible refine (T _ GG).mono ?_; rintro e w' ⟨rfl, G1⟩; have GG := GG.trans G1)
                                      | (go_at_call 45; with_reducible refine (A _ GG).mono ?_; rintro e w' ⟨rfl, G1⟩; have GG := GG.trans G1; have HX := Lib.hid (h.out.on GG); have c0 := (box0 HX.out.hd).1; have f0 := (box0 HX.out.hd).2; have c1 := (box1 HX.out.hd).1; have f1 := (box1 HX.out.hd).2))
                have HO := (Gw.alloc w' (.cells #[.string p, .bool true, .int .i64 s.nx] 95))
                have e0 : (w'.alloc (.cells #[.string p, .bool true, .int .i64 s.nx] 95)).drew.cell? ⟨g, 0, none⟩ = some (.slice (some ⟨r, 0, none⟩) s.l.length cap) := HO.cell c0
                have e1 : (w'.alloc (.cells #[.string p, .bool true, .int .i64 s.nx] 95)).drew.cell? ⟨g, 1, none⟩ = some (.int .i64 s.nx) := HO.cell c1
                have hgs : Hid (g < w'.heap.size) := HX.out.hd.lt
                go_region_law (refine step_append_own _ (by rfl) _ _ _ (by rfl) B 95 i0 _ 3 32 Try.underlying37 HI.out.1 HI.out.2.1 HI.out.2.2.1 HI.out.2.2.2 rfl (by omega) (.slice (some ⟨r, 0, none⟩) s.l.length cap) s.l.length (iCs s.l) (by rfl) ((HX.out.row.alloc _).drew) ⟨w'.heap.size, 0, none⟩ 1 1 [.string p, .bool true, .int .i64 s.nx] (by rfl) (by rfl) (World.news_of_block (cs := #[.string p, .bool true, .int .i64 s.nx]) (t := 95) (fr := (0, 0)) (heap_alloc_new w' _)) (by simp [Value.oneCell']) (by have := hm8.out; omega) (by omega) (by have := HX.out.hB; have := hgs.out; simp; omega) ?_; intro v2 p2 own2 gr2 at2; obtain ⟨A2, m2, c2, rfl⟩ := own_form own2; have HP : Hid (Has p2 g 39 #[(.slice (some ⟨r, 0, none⟩) s.l.length cap), .int .i64 s.nx]) := (HX.out.hd.on HO).same (gr2.block g (by have := hgs.out; simp; omega) (fun e => HX.out.ne e.symm)); have e2 := (box0 HP.out).1; have e3 := (box0 HP.out).2)
                all_goals (
                  have HP0 := (HP.out.put 0 (.slice A2 m2 c2))
                  have b1 := (box1 HP0).1
                  have b2 := (box1 HP0).2
                  have HP1 := (HP0.put 1 (.int .i64 (s.nx + 1)))
                  have b3 := (box1 HP1).1
                  have e4 : iC ⟨p.data.toList, true, s.nx⟩ = [.string p, .bool true, .int .i64 s.nx] := by show [Value.string (bs p.data.toList), _, _] = _; rw [bs_self]
                  have HF := Lib.hid (RTo.pre GG (one_app (i := ⟨p.data.toList, true, s.nx⟩) HX.out HO.drew gr2 at2 (by rw [e4]; exact own2) (by omega) (s.nx + 1)))
                  clear e4
                  clear HP0 HP1 e0 e1
                  go_wp2
                  go_ret2
                  exact ⟨rfl, HF.out⟩)
              | false =>
                exact absurd ⟨rfl, rfl⟩ hd
            | false =>
              cases y with
              | true =>
                clear hd
                go_enter Try.func48, Try.ntmps48
                go_upto_region 13 with (first
                                      | (go_at_call 44; with_reducible refine (F _).mono ?_; rintro e w' ⟨rfl, G1⟩; have GG := GG.trans G1)
                                      | (go_at_call 46; with_reducible refine (S _).mono ?_; rintro e w' ⟨rfl, G1⟩; have GG := GG.trans G1)
                                      | (go_at_call 80; with_reducible refine (T _ GG).mono ?_; rintro e w' ⟨rfl, G1⟩; have GG := GG.trans G1)
                                      | (go_at_call 45; with_reducible refine (A _ GG).mono ?_; rintro e w' ⟨rfl, G1⟩; have GG := GG.trans G1; have HX := Lib.hid (h.out.on GG); have c0 := (box0 HX.out.hd).1; have f0 := (box0 HX.out.hd).2; have c1 := (box1 HX.out.hd).1; have f1 := (box1 HX.out.hd).2))
                have HO := (Gw.alloc w' (.cells #[.string p, .bool false, .int .i64 s.nx] 95))
                have e0 : (w'.alloc (.cells #[.string p, .bool false, .int .i64 s.nx] 95)).drew.cell? ⟨g, 0, none⟩ = some (.slice (some ⟨r, 0, none⟩) s.l.length cap) := HO.cell c0
                have e1 : (w'.alloc (.cells #[.string p, .bool false, .int .i64 s.nx] 95)).drew.cell? ⟨g, 1, none⟩ = some (.int .i64 s.nx) := HO.cell c1
                have hgs : Hid (g < w'.heap.size) := HX.out.hd.lt
                go_region_law (refine step_append_own _ (by rfl) _ _ _ (by rfl) B 95 i0 _ 3 32 Try.underlying37 HI.out.1 HI.out.2.1 HI.out.2.2.1 HI.out.2.2.2 rfl (by omega) (.slice (some ⟨r, 0, none⟩) s.l.length cap) s.l.length (iCs s.l) (by rfl) ((HX.out.row.alloc _).drew) ⟨w'.heap.size, 0, none⟩ 1 1 [.string p, .bool false, .int .i64 s.nx] (by rfl) (by rfl) (World.news_of_block (cs := #[.string p, .bool false, .int .i64 s.nx]) (t := 95) (fr := (0, 0)) (heap_alloc_new w' _)) (by simp [Value.oneCell']) (by have := hm8.out; omega) (by omega) (by have := HX.out.hB; have := hgs.out; simp; omega) ?_; intro v2 p2 own2 gr2 at2; obtain ⟨A2, m2, c2, rfl⟩ := own_form own2; have HP : Hid (Has p2 g 39 #[(.slice (some ⟨r, 0, none⟩) s.l.length cap), .int .i64 s.nx]) := (HX.out.hd.on HO).same (gr2.block g (by have := hgs.out; simp; omega) (fun e => HX.out.ne e.symm)); have e2 := (box0 HP.out).1; have e3 := (box0 HP.out).2)
                all_goals (
                  have HP0 := (HP.out.put 0 (.slice A2 m2 c2))
                  have b1 := (box1 HP0).1
                  have b2 := (box1 HP0).2
                  have HP1 := (HP0.put 1 (.int .i64 (s.nx + 1)))
                  have b3 := (box1 HP1).1
                  have e4 : iC ⟨p.data.toList, false, s.nx⟩ = [.string p, .bool false, .int .i64 s.nx] := by show [Value.string (bs p.data.toList), _, _] = _; rw [bs_self]
                  have HF := Lib.hid (RTo.pre GG (one_app (i := ⟨p.data.toList, false, s.nx⟩) HX.out HO.drew gr2 at2 (by rw [e4]; exact own2) (by omega) (s.nx + 1)))
                  clear e4
                  clear HP0 HP1 e0 e1
                  go_wp2
                  go_ret2
                  exact ⟨rfl, HF.out⟩)
              | false =>
                clear hd
                go_enter Try.func48, Try.ntmps48
                go_upto_region 13 with (first
                                      | (go_at_call 44; with_reducible refine (F _).mono ?_; rintro e w' ⟨rfl, G1⟩; have GG := GG.trans G1)
                                      | (go_at_call 46; with_reducible refine (S _).mono ?_; rintro e w' ⟨rfl, G1⟩; have GG := GG.trans G1)
                                      | (go_at_call 80; with_reducible refine (T _ GG).mono ?_; rintro e w' ⟨rfl, G1⟩; have GG := GG.trans G1)
                                      | (go_at_call 45; with_reducible refine (A _ GG).mono ?_; rintro e w' ⟨rfl, G1⟩; have GG := GG.trans G1; have HX := Lib.hid (h.out.on GG); have c0 := (box0 HX.out.hd).1; have f0 := (box0 HX.out.hd).2; have c1 := (box1 HX.out.hd).1; have f1 := (box1 HX.out.hd).2))
                have HO := (Gw.alloc w' (.cells #[.string p, .bool false, .int .i64 s.nx] 95))
                have e0 : (w'.alloc (.cells #[.string p, .bool false, .int .i64 s.nx] 95)).drew.cell? ⟨g, 0, none⟩ = some (.slice (some ⟨r, 0, none⟩) s.l.length cap) := HO.cell c0
                have e1 : (w'.alloc (.cells #[.string p, .bool false, .int .i64 s.nx] 95)).drew.cell? ⟨g, 1, none⟩ = some (.int .i64 s.nx) := HO.cell c1
                have hgs : Hid (g < w'.heap.size) := HX.out.hd.lt
                go_region_law (refine step_append_own _ (by rfl) _ _ _ (by rfl) B 95 i0 _ 3 32 Try.underlying37 HI.out.1 HI.out.2.1 HI.out.2.2.1 HI.out.2.2.2 rfl (by omega) (.slice (some ⟨r, 0, none⟩) s.l.length cap) s.l.length (iCs s.l) (by rfl) ((HX.out.row.alloc _).drew) ⟨w'.heap.size, 0, none⟩ 1 1 [.string p, .bool false, .int .i64 s.nx] (by rfl) (by rfl) (World.news_of_block (cs := #[.string p, .bool false, .int .i64 s.nx]) (t := 95) (fr := (0, 0)) (heap_alloc_new w' _)) (by simp [Value.oneCell']) (by have := hm8.out; omega) (by omega) (by have := HX.out.hB; have := hgs.out; simp; omega) ?_; intro v2 p2 own2 gr2 at2; obtain ⟨A2, m2, c2, rfl⟩ := own_form own2; have HP : Hid (Has p2 g 39 #[(.slice (some ⟨r, 0, none⟩) s.l.length cap), .int .i64 s.nx]) := (HX.out.hd.on HO).same (gr2.block g (by have := hgs.out; simp; omega) (fun e => HX.out.ne e.symm)); have e2 := (box0 HP.out).1; have e3 := (box0 HP.out).2)
                all_goals (
                  have HP0 := (HP.out.put 0 (.slice A2 m2 c2))
                  have b1 := (box1 HP0).1
                  have b2 := (box1 HP0).2
                  have HP1 := (HP0.put 1 (.int .i64 (s.nx + 1)))
                  have b3 := (box1 HP1).1
                  have e4 : iC ⟨p.data.toList, false, s.nx⟩ = [.string p, .bool false, .int .i64 s.nx] := by show [Value.string (bs p.data.toList), _, _] = _; rw [bs_self]
                  have HF := Lib.hid (RTo.pre GG (one_app (i := ⟨p.data.toList, false, s.nx⟩) HX.out HO.drew gr2 at2 (by rw [e4]; exact own2) (by omega) (s.nx + 1)))
                  clear e4
                  clear HP0 HP1 e0 e1
                  go_wp2
                  go_ret2
                  exact ⟨rfl, HF.out⟩)
end Go.Proofs.Ytckoapfmfpmdgaa
