/-
  Parts of the proof, joined: DpllC5, DpllC6.
-/
import Derived.Test.YtcebpbjpbnfacaaGreatMg41
import Derived.BigRegion
import Derived.Test.YtcebpbjpbnfacaaGreatMg04
import Derived.Test.YtcebpbjpbnfacaaGreatMg37

/-
  Count of package dpll: count.
-/
namespace Go.Proofs.YtcebpbjpbnfacaaGreat
open Go.ChangeShapes Go.WideShapes Go.ChangeAt Go.RowKit
set_option linter.unusedVariables false
set_option linter.unusedSimpArgs false

def CnPost (B : Nat) (τ : Nat → Nat) (w : World) (q o : Nat) (s M : Int) (k : Nat) (e : Ending) (w' : World) : Prop :=
  e = .returned (.tuple #[]) ∧ ∃ τ' vs', Ctr B τ' w' q (min M (s + k)) M vs' ∧ Step (fun r => r = 9 ∨ (10 ≤ r ∧ r < 10 + o)) τ τ' w w'
theorem Ctr.cells {B : Nat} {τ : Nat → Nat} {w : World} {q : Nat} {s M : Int} {vs : List Value} (h : Ctr B τ w q s M vs) : w.cell? ⟨q, 0, none⟩ = some (.int .i64 s) ∧ w.cell? ⟨q, 1, none⟩ = some (.int .i64 M) ∧ w.frozen? ⟨q, 0, none⟩ = false := ⟨h.blk.cell 0, h.blk.cell 1, h.blk.free 0⟩
theorem Ctr.sum {B : Nat} {τ : Nat → Nat} {w : World} {q : Nat} {s M : Int} {vs : List Value} (h : Ctr B τ w q s M vs) (s' : Int) : Ctr B τ (w.setCell ⟨q, 0, none⟩ (.int .i64 s')) q s' M vs ∧ Step (fun r => r = 9) τ τ w (w.setCell ⟨q, 0, none⟩ (.int .i64 s')) := by
  have k : Step (fun r => r = 9) τ τ w (w.setCell ⟨q, 0, none⟩ (.int .i64 s')) := Step.set _ _ h.blk.2
  refine ⟨⟨Nat.le_trans h.base k.kept.size, h.low, ?_, h.len, fun i v hv => ?_⟩, k⟩
  · have := h.blk.put 0 (.int .i64 s')
    rw [List.setIfInBounds_toArray] at this; exact this
  · obtain ⟨m, xs, r⟩ := h.room i v hv
    exact ⟨m, xs, r.step k (by omega)⟩
theorem w64_small (x : Int) (h0 : 0 ≤ x) (h1 : x ≤ 33554432) : wrap64 x = x := by unfold wrap64; omega
theorem w64_pow {o K : Nat} (hK : 2 ^ o = K) (h : K ≤ 16777216) : wrap64 ((2 : Int) ^ o) = (K : Int) := by
  have e : ((2 ^ o : Nat) : Int) = (2 : Int) ^ o := Int.natCast_pow 2 o
  rw [← e, hK]
  exact w64_small _ (by omega) (by omega)
/-- The literal of a bit of a clause. -/
theorem bit_lit {n : Nat} {f : List (List Int)} {t : List Int} (okf : FOk n f) {c : List Int} (hc : c ∈ rests f t) {k : Nat} (h : (bp c ||| bt c).testBit k = true) : LOk n ((k : Int) + 1) ∧ wo t ((k : Int) + 1) = 0 := by
  have hl := rests_lit okf hc
  rw [Nat.testBit_or, bp_bit, bt_bit k c fun y hy => (hl y hy).1.1, Bool.or_eq_true, decide_eq_true_eq, decide_eq_true_eq] at h
  rcases h with h | h
  · exact hl _ h
  · obtain ⟨a, b⟩ := hl _ h
    have a' := a.neg
    rw [Int.neg_neg] at a'
    refine ⟨a', ?_⟩
    have := wo_opp (t := t) a'
    omega
theorem ix0 (W : World) (a b c d : Int) : (Instr.index 154 (.agg #[.int .u32 a, .int .u32 b, .int .u32 c, .int .u32 d]) (.int .i64 0)).run Tryz.prog W = .ok (.agg #[.int .u32 a, .int .u32 b]) W := by kernel_rfl
theorem ix1 (W : World) (a b c d : Int) : (Instr.index 154 (.agg #[.int .u32 a, .int .u32 b, .int .u32 c, .int .u32 d]) (.int .i64 1)).run Tryz.prog W = .ok (.agg #[.int .u32 c, .int .u32 d]) W := by kernel_rfl
section
variable {B q n : Nat} {M : Int} {f : List (List Int)}
set_option maxHeartbeats 6400000 in
set_option maxRecDepth 4000 in
theorem count_any (okf : FOk n f) (hn : n ≤ 24) (hM : M ≤ 9223372036854775807) (hfl : f.length ≤ 100000) : ∀ (o : Nat) (τ : Nat → Nat) (w : World) (vs : List Value) (s : Int) (r : Nat) (A : Option Addr) (t : List Int) (cap : Nat), Ctr B τ w q s M vs → MskAt τ w r A (rests f t) → r ≠ 9 → ¬ (10 ≤ r ∧ r < 10 + o) → TV n t → t.count 0 = o → 0 ≤ s → s ≤ M → s + (sols n f t).length ≤ 16777216 → (rests f t).length ≤ 100000 →
    Calls Tryz.prog 37 #[.pointer (some ⟨q, 0, none⟩), .slice A (rests f t).length cap, .int .i64 (o : Int)] w (CnPost B τ w q o s M (sols n f t).length) := by
  intro o
  induction o using Nat.strongRecOn with
  | ind o ih =>
    intro τ w vs s r A t cap H HL hr9 hr10 ht hz hs0 hsM hsum hlen
    obtain ⟨x0, x1, f0⟩ := H.cells
    have zq := H.blk.lt
    have hok : ∀ c ∈ rests f t, ∀ x ∈ c, LOk n x := fun c hc x hx => (rests_lit okf hc x hx).1
    have hzn : o ≤ n := by rw [← hz, ← ht.1]; exact List.count_le_length
    by_cases hsm : s = M
    · have HE : Hid (∀ W, Below w.heap.size w W → CnPost B τ w q o s M (sols n f t).length (.returned (.tuple #[])) W) := fun W b => ⟨rfl, τ, vs, by rw [show min M (s + ((sols n f t).length : Int)) = s by omega]; exact H.step (Step.of_below (fun _ => False) τ b) id (fun _ _ => id) id, Step.of_below _ τ b⟩
      have hb : (s == M) = true := by rw [hsm]; simp
      clear hsum H HL hsm ih hok hlen
      go_enter Tryz.func37, Tryz.ntmps37
      go_wp2_with fail
      go_quiet (fail)
      go_wp2_with fail
      refine bodyPost_ret (results_none rfl _ _ _) rfl ?_
      exact HE.out _ (Below.draws (Below.refl _ _) _)
    · have hb : (s == M) = false := beq_eq_false_iff_ne.2 hsm
      by_cases hl0 : rests f t = []
      · have hk := sols_free okf (by omega) o t ht hz hl0
        rw [hk] at hsum
        have hp : 2 ^ o ≤ 16777216 := Nat.pow_le_pow_right (n := 2) (by decide) (show o ≤ 24 by omega)
        obtain ⟨K, hK⟩ : ∃ K : Nat, 2 ^ o = K := ⟨_, rfl⟩
        rw [hK] at hk hsum hp
        have HE : Hid (∀ W : World, W.heap = w.heap → W.os = w.os → W.tape = w.tape → W.output = w.output → CnPost B τ w q o s M (sols n f t).length (.returned (.tuple #[])) (W.setCell ⟨q, 0, none⟩ (.int .i64 (min M (s + (K : Int)))))) := fun W e1 e2 e3 e4 => by
          have b : Below w.heap.size w W := ⟨e2, e3, e4, by rw [e1]; exact Nat.le_refl _, fun k _ => by rw [e1]⟩
          obtain ⟨a, c⟩ := (H.step (Step.of_below (fun _ => False) τ b) id (fun _ _ => id) id).sum (min M (s + (K : Int)))
          exact ⟨rfl, τ, vs, by rw [hk]; exact a, (Step.of_below _ τ b).trans (c.mono fun _ h => .inl h)⟩
        have HW1 := Lib.hid (w64_pow hK (by omega))
        have HW2 := Lib.hid (w64_small (s + (K : Int)) (by omega) (by omega))
        clear hK hp hsum
        rw [hl0]
        clear H HL hsm ih hok hlen hk hl0
        go_enter Tryz.func37, Tryz.ntmps37
        go_wp2_with fail
        go_quiet (fail)
        go_wp2_with fail
        go_region
        rw [HW1.out, HW2.out]
        go_wp2_with fail
        refine bodyPost_ret (results_none rfl _ _ _) rfl ?_
        exact HE.out _ rfl rfl rfl rfl
      · obtain ⟨c0, hc0⟩ : ∃ c, (rests f t)[0]? = some c := ⟨_, List.getElem?_eq_getElem (List.length_pos_iff.2 hl0)⟩
        have hlp : 0 < (rests f t).length := List.length_pos_iff.2 hl0
        have CS := Lib.hid (fun (W : World) (b : Below w.heap.size w W) => shortest_any (cap := cap) hn (HL.step (Step.of_below (fun _ => False) τ b) id) hok hlp (by omega))
        have hnl : ¬ ((rests f t).length : Int) = 0 := by omega
        have hnb : (((rests f t).length : Int) == 0) = false := beq_eq_false_iff_ne.2 hnl
        have HH := Lib.hid H
        have HHL := Lib.hid HL
        have HOK := Lib.hid hok
        have HIH := Lib.hid ih
        obtain ⟨k, hk⟩ : ∃ k, (sols n f t).length = k := ⟨_, rfl⟩
        have HK := Lib.hid hk
        rw [hk] at hsum ⊢
        clear H HL ih hok hl0 hc0 hsm hk
        go_enter Tryz.func37, Tryz.ntmps37
        go_wp2_with fail
        go_quiet (fail)
        go_wp2_with fail
        (with_reducible refine (CS.out _ (Below.draws (Below.refl _ _) _)).mono ?_)
        rintro e w1 ⟨⟨c, hc, rfl⟩, b1⟩
        have B1 := Lib.hid ((Below.draws (Below.refl w.heap.size w) nq).trans b1)
        clear b1 CS
        have CZ := Lib.hid (fun W => show Calls Tryz.prog 72 #[.agg #[.int .u32 (bp c : Int), .int .u32 (bt c : Int)]] W _ from size_any hn (HOK.out c hc) W)
        have CL := Lib.hid (fun (hne : c ≠ []) W => show Calls Tryz.prog 73 #[.agg #[.int .u32 (bp c : Int), .int .u32 (bt c : Int)]] W _ from lowest_any hn (HOK.out c hc) hne W)
        have HBT := Lib.hid (fun k => bit_lit okf hc (k := k))
        have HC := Lib.hid hc
        clear hc
        go_wp2_with fail
        (with_reducible refine (CZ.out _).mono ?_)
        rintro e w2 ⟨⟨z, rfl, z0, z1, z2⟩, b2⟩
        have h6 : HasB w2 w1.heap.size 150 #[.int .u32 (bp c : Int), .int .u32 (bt c : Int)] := (b2.block _ (by simp)).trans (new_heap w1 _)
        have x6 := h6.cell 0
        have x7 := h6.cell 1
        have z6 := lt_of_heap h6
        have B2 := Lib.hid (Below.on (Below.plus B1.out _) b2)
        clear b2 h6 CZ
        by_cases hcn : c = []
        · have hz0 : z = 0 := z2.2 hcn
          have HE : Hid (∀ W, Below w.heap.size w W → CnPost B τ w q o s M k (.returned (.tuple #[])) W) := fun W b => by
            have h0 := sols_gone okf (by omega) ht (hcn ▸ HC.out)
            have hk0 : k = 0 := by rw [← HK.out, h0]; rfl
            exact ⟨rfl, τ, vs, by rw [show min M (s + (k : Int)) = s by rw [hk0]; omega]; exact HH.out.step (Step.of_below (fun _ => False) τ b) id (fun _ _ => id) id, Step.of_below _ τ b⟩
          clear z2 hcn CL HBT HC z0 z1
          subst hz0
          go_wp2_with fail
          refine bodyPost_ret (results_none rfl _ _ _) rfl ?_
          exact HE.out _ B2.out
        · have hz1 : ¬ z = 0 := fun e => hcn (z2.1 e)
          have hz2 : (z == 0) = false := beq_eq_false_iff_ne.2 hz1
          have CL2 := Lib.hid (CL.out hcn)
          clear z2 hcn CL z0 z1
          go_wp2_with fail
          (with_reducible refine (CL2.out _).mono ?_)
          rintro e w3 ⟨⟨kb, rfl, hbit⟩, b3⟩
          obtain ⟨okv, hov⟩ := HBT.out kb hbit
          have B3 := Lib.hid (Below.on B2.out b3)
          obtain ⟨Z, hZ⟩ : ∃ Z : Nat, 2 ^ kb = Z := ⟨_, rfl⟩
          have HZ := Lib.hid hZ
          rw [hZ]
          clear b3 hbit CL2 hZ HBT
          go_wp2_with fail
          obtain ⟨v, hv⟩ : ∃ v : Int, (kb : Int) + 1 = v := ⟨_, rfl⟩
          rw [hv] at okv hov
          have hov' : wo t (-v) = 0 := by rw [wo_opp okv, hov]; rfl
          obtain ⟨o', ho'⟩ : ∃ o', o = o' + 1 := ⟨o - 1, by have := count_set ht okv hov; omega⟩
          have HO := Lib.hid ho'
          obtain ⟨k1, hk1⟩ : ∃ k, (sols n f (setL t v)).length = k := ⟨_, rfl⟩
          obtain ⟨k2, hk2⟩ : ∃ k, (sols n f (setL t (-v))).length = k := ⟨_, rfl⟩
          have HKK := Lib.hid (show (sols n f (setL t v)).length = k1 ∧ (sols n f (setL t (-v))).length = k2 ∧ k = k1 + k2 from ⟨hk1, hk2, by rw [← HK.out, sols_both ht okv hov, hk1, hk2]⟩)
          have HV := Lib.hid (show (LOk n v ∧ wo t v = 0 ∧ lp v = Z ∧ lt1 v = 0) ∧ LOk n (-v) ∧ wo t (-v) = 0 ∧ lp (-v) = 0 ∧ lt1 (-v) = Z from by
            have a1 : lp v = Z ∧ lt1 v = 0 ∧ lp (-v) = 0 ∧ lt1 (-v) = Z := by
              rw [← HZ.out, ← hv]
              unfold lp lt1
              rw [if_pos (by omega), if_pos (by omega), if_neg (by omega), if_neg (by omega), show ((kb : Int) + 1 - 1).toNat = kb by omega, show (-(-((kb : Int) + 1)) - 1).toNat = kb by omega]
              exact ⟨rfl, rfl, rfl, rfl⟩
            exact ⟨⟨okv, hov, a1.1, a1.2.1⟩, okv.neg, hov', a1.2.2.1, a1.2.2.2⟩)
          have hwo : IntKind.i64.wrap ((o : Int) - 1) = (o' : Int) := by rw [IntKind.wrap_i64]; omega
          have hRr : ¬ (r = 9 ∨ (10 ≤ r ∧ r < 10 + o)) := by omega
          have R0 : Hid (Ctr B τ w3 q (min M (s + (0 : Nat))) M vs ∧ Step (fun r => r = 9 ∨ (10 ≤ r ∧ r < 10 + o)) τ τ w w3) := ⟨by rw [show min M (s + ((0 : Nat) : Int)) = s by omega]; exact HH.out.step (Step.of_below (fun _ => False) τ B3.out) id (fun _ _ => id) id, Step.of_below _ τ B3.out⟩
          have hix0 := fun W => ix0 W (Z : Int) 0 0 (Z : Int)
          have hix1 := fun W => ix1 W (Z : Int) 0 0 (Z : Int)
          clear hk1 hk2 hv okv hov hov' x0 x1 f0 x6 x7 z6 ho'
          go_loopw [49] (fun iv wr => ∃ (i : Nat) (τr : Nat → Nat) (vsr : List Value), iv = .int .i64 i ∧ i ≤ 2 ∧ Hid (Ctr B τr wr q (min M (s + ((if i = 0 then 0 else if i = 1 then k1 else k : Nat) : Int))) M vsr ∧ Step (fun r => r = 9 ∨ (10 ≤ r ∧ r < 10 + o)) τ τr w wr)) (fun iv _ => 2 - (intOf iv).toNat)
          case atStart => exact ⟨0, τ, vs, rfl, by omega, R0⟩
          case round =>
            obtain ⟨i, τr, vsr, rfl, hi, R⟩ := hrel
            clear R0
            rcases (show i = 0 ∨ i = 1 ∨ i = 2 by omega) with rfl | rfl | rfl
            · have CU := Lib.hid (show Calls Tryz.prog 74 #[.pointer (some ⟨q, 0, none⟩), .slice A (rests f t).length cap, .agg #[.int .u32 (Z : Int), .int .u32 0], .int .i64 (o' : Int)] (wr.alloc (.cells #[.int .u32 (Z : Int), .int .u32 0] 150)) _ from by
                have := under_any (cap := cap) (R.out.1.step (Step.of_below (fun _ => False) τr (below_alloc wr (.cells #[.int .u32 (Z : Int), .int .u32 0] 150))) id (fun _ _ => id) id) (o := o') (by have := HO.out; omega) hn ((HHL.out.step R.out.2 hRr).step (Step.of_below (fun _ => False) τr (below_alloc wr _)) id) ⟨hr9, by have := HO.out; omega⟩ HOK.out hlen HV.out.1.1
                rw [HV.out.1.2.2.1, HV.out.1.2.2.2] at this
                exact this)
              go_wp2_with fail
              (with_reducible refine CU.out.mono ?_)
              rintro e w5 ⟨τ5, vs5, A5, cap5, rfl, c5, m5, k5⟩
              have CI := Lib.hid (show Calls Tryz.prog 37 #[.pointer (some ⟨q, 0, none⟩), .slice A5 (undr (rests f t) v).length cap5, .int .i64 (o' : Int)] w5 (CnPost B τ5 w5 q o' (min M (s + (0 : Nat))) M k1) from by
                have er : rests f (setL t v) = undr (rests f t) v := rests_set ht HV.out.1.1 HV.out.1.2.1 okf
                have := HIH.out o' (by have := HO.out; omega) τ5 w5 vs5 (min M (s + (0 : Nat))) (10 + o') A5 (setL t v) cap5 c5 (by rw [er]; exact m5) (by omega) (by omega) (setL_tv ht HV.out.1.1) (by have := count_set ht HV.out.1.1 HV.out.1.2.1; have := HO.out; omega) (by omega) (by omega) (by rw [HKK.out.1]; have := HKK.out.2.2; omega) (by rw [er]; exact Nat.le_trans (undr_len _ _) hlen)
                rw [er, HKK.out.1] at this
                exact this)
              have K5 := Lib.hid (R.out.2.trans ((Step.of_below _ τr (below_alloc wr (.cells #[.int .u32 (Z : Int), .int .u32 0] 150))).trans (k5.mono (R' := fun r => r = 9 ∨ (10 ≤ r ∧ r < 10 + o)) (fun r h => by have := HO.out; omega))))
              clear c5 m5 k5 CU
              go_wp2_with fail
              (with_reducible refine CI.out.mono ?_)
              rintro e w6 ⟨rfl, τ6, vs6, c6, k6⟩
              have HR : Hid (Ctr B τ6 w6 q (min M (s + (k1 : Nat))) M vs6 ∧ Step (fun r => r = 9 ∨ (10 ≤ r ∧ r < 10 + o)) τ τ6 w w6) := ⟨by
                rw [show min M (s + ((k1 : Nat) : Int)) = min M (min M (s + ((0 : Nat) : Int)) + ((k1 : Nat) : Int)) by have := HKK.out.2.2; omega]; exact c6, K5.out.trans (k6.mono fun r h => by have := HO.out; omega)⟩
              clear c6 k6 CI
              go_wp2_with fail
              go_roundw
              case rel => exact ⟨1, τ6, vs6, by go_num, by omega, HR⟩
              case measure => simp [intOf]
            · have CU := Lib.hid (show Calls Tryz.prog 74 #[.pointer (some ⟨q, 0, none⟩), .slice A (rests f t).length cap, .agg #[.int .u32 0, .int .u32 (Z : Int)], .int .i64 (o' : Int)] (wr.alloc (.cells #[.int .u32 0, .int .u32 (Z : Int)] 150)) _ from by
                have := under_any (cap := cap) (R.out.1.step (Step.of_below (fun _ => False) τr (below_alloc wr (.cells #[.int .u32 0, .int .u32 (Z : Int)] 150))) id (fun _ _ => id) id) (o := o') (by have := HO.out; omega) hn ((HHL.out.step R.out.2 hRr).step (Step.of_below (fun _ => False) τr (below_alloc wr _)) id) ⟨hr9, by have := HO.out; omega⟩ HOK.out hlen HV.out.2.1
                rw [HV.out.2.2.2.1, HV.out.2.2.2.2] at this
                exact this)
              go_wp2_with fail
              (with_reducible refine CU.out.mono ?_)
              rintro e w5 ⟨τ5, vs5, A5, cap5, rfl, c5, m5, k5⟩
              have CI := Lib.hid (show Calls Tryz.prog 37 #[.pointer (some ⟨q, 0, none⟩), .slice A5 (undr (rests f t) (-v)).length cap5, .int .i64 (o' : Int)] w5 (CnPost B τ5 w5 q o' (min M (s + (k1 : Nat))) M k2) from by
                have er : rests f (setL t (-v)) = undr (rests f t) (-v) := rests_set ht HV.out.2.1 HV.out.2.2.1 okf
                have := HIH.out o' (by have := HO.out; omega) τ5 w5 vs5 (min M (s + (k1 : Nat))) (10 + o') A5 (setL t (-v)) cap5 c5 (by rw [er]; exact m5) (by omega) (by omega) (setL_tv ht HV.out.2.1) (by have := count_set ht HV.out.2.1 HV.out.2.2.1; have := HO.out; omega) (by omega) (by omega) (by rw [HKK.out.2.1]; have := HKK.out.2.2; omega) (by rw [er]; exact Nat.le_trans (undr_len _ _) hlen)
                rw [er, HKK.out.2.1] at this
                exact this)
              have K5 := Lib.hid (R.out.2.trans ((Step.of_below _ τr (below_alloc wr (.cells #[.int .u32 0, .int .u32 (Z : Int)] 150))).trans (k5.mono (R' := fun r => r = 9 ∨ (10 ≤ r ∧ r < 10 + o)) (fun r h => by have := HO.out; omega))))
              clear c5 m5 k5 CU
              go_wp2_with fail
              (with_reducible refine CI.out.mono ?_)
              rintro e w6 ⟨rfl, τ6, vs6, c6, k6⟩
              have HR : Hid (Ctr B τ6 w6 q (min M (s + (k : Nat))) M vs6 ∧ Step (fun r => r = 9 ∨ (10 ≤ r ∧ r < 10 + o)) τ τ6 w w6) := ⟨by
                rw [show min M (s + ((k : Nat) : Int)) = min M (min M (s + ((k1 : Nat) : Int)) + ((k2 : Nat) : Int)) by have := HKK.out.2.2; omega]; exact c6, K5.out.trans (k6.mono fun r h => by have := HO.out; omega)⟩
              clear c6 k6 CI
              go_wp2_with fail
              go_roundw
              case rel => exact ⟨2, τ6, vs6, by go_num, by omega, HR⟩
              case measure => simp [intOf]
            · have HE : Hid (CnPost B τ w q o s M k (.returned (.tuple #[])) wr) := ⟨rfl, τr, vsr, R.out.1, R.out.2⟩
              go_wp2_with fail
              refine bodyPost_ret (results_none rfl _ _ _) rfl ?_
              exact HE.out
end
end Go.Proofs.YtcebpbjpbnfacaaGreat

/-
  Count of package dpll: masksOf, Count.
-/
namespace Go.Proofs.YtcebpbjpbnfacaaGreat
open Go.ChangeShapes Go.WideShapes Go.ChangeAt Go.RowKit
set_option linter.unusedVariables false
set_option linter.unusedSimpArgs false

def MoPost (f : List (List Int)) (w : World) (e : Ending) (w' : World) : Prop :=
  ∃ τ' A cap, e = .returned (.slice A (cls f).length cap) ∧ RowN τ' 8 w' 150 2 (.slice A (cls f).length cap) (cls f).length (mkCells (cls f)) ∧ Step (fun r => r = 8) (fun _ => 0) τ' w w'
structure MoR (w : World) (l : List (List Int)) (τ' : Nat → Nat) (wr : World) (A : Option Addr) (cap : Nat) : Prop where
  R : RowN τ' 8 wr 150 2 (.slice A l.length cap) l.length (mkCells l)
  T : Step (fun r => r = 8) (fun _ => 0) τ' w wr
theorem MoR.below {w : World} {l : List (List Int)} {τ' : Nat → Nat} {wr W : World} {A : Option Addr} {cap : Nat} (h : MoR w l τ' wr A cap) (b : Below wr.heap.size wr W) : MoR w l τ' W A cap :=
  ⟨h.R.step (Step.of_below (fun _ => False) τ' b) id, h.T.trans (Step.of_below _ τ' b)⟩
theorem MoR.base {w : World} {l : List (List Int)} {τ' : Nat → Nat} {wr : World} {A : Option Addr} {cap : Nat} (h : MoR w l τ' wr A cap) : Below w.heap.size w wr := h.T.below (Nat.le_refl _) (fun _ _ => by decide)
theorem taken_snoc {α : Type} {l : List α} {i : Nat} {x : α} (h : l[i]? = some x) : l.take (i + 1) = l.take i ++ [x] := by
  obtain ⟨h1, h2⟩ := List.getElem?_eq_some_iff.1 h
  rw [List.take_succ_eq_append_getElem h1, h2]
theorem or_bit {P k : Nat} (hP : P < 2 ^ 24) (hk : k < 24) : bits .or .u32 (P : Int) ((2 : Int) ^ min k 32 % 4294967296) = ((P ||| 2 ^ k : Nat) : Int) := by
  have e : ((2 ^ k : Nat) : Int) = (2 : Int) ^ k := Int.natCast_pow 2 k
  have h : 2 ^ k < 2 ^ 24 := Nat.pow_lt_pow_right (by decide) hk
  have e2 : (2 : Nat) ^ 24 = 16777216 := rfl
  rw [e2] at h hP
  rw [Nat.min_eq_left (by omega), ← e]
  clear e
  generalize 2 ^ k = Z at *
  rw [Int.emod_eq_of_lt (by omega) (by omega)]
  exact u32_or_nat _ _ (by omega) (by omega)
section
variable {n : Nat} {w : World} {A : Option Addr} {f : List (List Int)} {fcap : Nat}
set_option maxHeartbeats 6400000 in
set_option maxRecDepth 4000 in
theorem masks_any (hf : FormAt w A f) (okf : FOk n f) (hn : n ≤ 24) (hfl : f.length ≤ 100000) (hcl : ∀ c ∈ f, c.length ≤ 100000) :
    Calls Tryz.prog 38 #[.slice A f.length fcap] w (MoPost f w) := by
  have R0 : Hid (MoR w (cls (f.take 0)) (fun _ => 0) w none 0) := ⟨⟨World.ownsRow_nil w 0 _ 2, fun g hg => by cases hg⟩, Step.refl _ _ _⟩
  obtain ⟨i0, hi0, hz0, hz1, hz2⟩ := info_parts infoMsk
  have HI := Lib.hid (show _ ∧ _ ∧ _ ∧ _ from ⟨hi0, hz0, hz1, hz2⟩)
  have HF := Lib.hid hf
  have HOK := Lib.hid okf
  have HCL := Lib.hid hcl
  clear hi0 hz0 hz1 hz2 hf okf hcl
  go_enter Tryz.func38, Tryz.ntmps38
  go_wp2_with fail
  go_loopw [3, 13] (fun lv iv wr => ∃ (i : Nat) (A2 : Option Addr) (c2 : Nat) (τ' : Nat → Nat), i ≤ f.length ∧ iv = .int .i64 i ∧ lv = .slice A2 (cls (f.take i)).length c2 ∧ Hid (MoR w (cls (f.take i)) τ' wr A2 c2)) (fun _ iv _ => f.length - (intOf iv).toNat)
  case atStart => exact ⟨0, none, 0, _, Nat.zero_le _, rfl, rfl, R0⟩
  case round =>
    obtain ⟨i, A2, c2, τ', hi, rfl, rfl, R⟩ := hrel
    clear R0
    by_cases hlt : i < f.length
    · obtain ⟨c, hc⟩ : ∃ c, f[i]? = some c := ⟨_, List.getElem?_eq_getElem hlt⟩
      have hmem := List.mem_of_getElem? hc
      obtain ⟨a, C, ccap, rfl, hce, hs, _⟩ := HF.out.get i c hc
      have za := HF.out.lt a rfl
      have xi : wr.cell? (a.add i) = some (.slice C c.length ccap) := (R.out.base.cell (p := a.add i) (by rw [add_block]; exact za)).trans hce
      have CN := Lib.hid (normal_any C c ccap wr (hs.keep R.out.base) (HF.out.wf c hmem) (HCL.out c hmem))
      have b3 : (0 : Int) ≤ (i : Int) := by omega
      have b4 : (i : Int) < (f.length : Int) := by omega
      have HTK := Lib.hid (taken_snoc hc)
      have hrl : (row c).length ≤ 100000 := Nat.le_trans (row_len c) (HCL.out c hmem)
      have HRO := Lib.hid (show ∀ x ∈ row c, LOk n x from fun x hx => HOK.out c hmem x (row_mem hx))
      clear hc hs hce hmem
      go_wp2_with fail
      (with_reducible refine CN.out.mono ?_)
      rintro e w1 ⟨A1, cap1, rfl, S1, b1, own1⟩
      have HR1 := Lib.hid (R.out.below b1)
      clear b1 CN own1 R xi
      cases ht : taut (row c) with
      | true =>
        have HC2 := Lib.hid (show cls (f.take (i + 1)) = cls (f.take i) by rw [HTK.out]; exact cls_no ht)
        rw [nrm_yes ht]
        clear ht HTK S1
        go_wp2_with fail
        go_roundw
        case rel => exact ⟨i + 1, A2, c2, τ', by omega, by go_num, by rw [HC2.out], by rw [HC2.out]; exact HR1.out⟩
        case measure => simp [intOf]; omega
      | false =>
        have HC2 := Lib.hid (show cls (f.take (i + 1)) = cls (f.take i) ++ [row c] by rw [HTK.out]; exact cls_yes ht)
        rw [nrm_no ht] at S1 ⊢
        have S1 := Lib.hid S1
        obtain ⟨rc, hrc⟩ : ∃ rc, row c = rc := ⟨_, rfl⟩
        rw [hrc] at S1 HC2 HRO hrl ⊢
        clear ht HTK hrc
        have M0 : Hid (HasB (w1.alloc (.cells #[.int .u32 0, .int .u32 0] 150)) w1.heap.size 150 #[.int .u32 (bp (rc.take 0) : Int), .int .u32 (bt (rc.take 0) : Int)] ∧ Below w1.heap.size w1 (w1.alloc (.cells #[.int .u32 0, .int .u32 0] 150))) := ⟨new_heap w1 _, below_alloc w1 _⟩
        go_wp2_with fail
        go_loopw [25] (fun jv wr2 => ∃ j : Nat, j ≤ rc.length ∧ jv = .int .i64 j ∧ Hid (HasB wr2 w1.heap.size 150 #[.int .u32 (bp (rc.take j) : Int), .int .u32 (bt (rc.take j) : Int)] ∧ Below w1.heap.size w1 wr2)) (fun jv _ => rc.length - (intOf jv).toNat)
        case atStart => exact ⟨0, Nat.zero_le _, rfl, M0⟩
        case round =>
          obtain ⟨j, hj, rfl, M⟩ := hrel
          clear M0
          by_cases hjl : j < rc.length
          · obtain ⟨x, hx⟩ : ∃ x, rc[j]? = some x := ⟨_, List.getElem?_eq_getElem hjl⟩
            obtain ⟨a1, rfl, hca⟩ := S1.out.get j x hx
            have hz1 : a1.block < w1.heap.size := by have := lt_of_cell hca; rwa [add_block] at this
            have xj := (M.out.2.cell (p := a1.add j) (by rw [add_block]; exact hz1)).trans hca
            have hok := HRO.out x (List.mem_of_getElem? hx)
            have x0 := M.out.1.cell 0
            have x1 := M.out.1.cell 1
            have f0 := M.out.1.free 0
            have f1 := M.out.1.free 1
            have z8 := lt_of_heap M.out.1
            have HTJ := Lib.hid (taken_snoc hx)
            have q3 : (0 : Int) ≤ (j : Int) := by omega
            have q4 : (j : Int) < (rc.length : Int) := by omega
            have HPB := Lib.hid (And.intro (bp_lt hn (rc.take j) (fun y hy => HRO.out y (List.mem_of_mem_take hy))) (bt_lt hn (rc.take j) (fun y hy => HRO.out y (List.mem_of_mem_take hy))))
            have HX := Lib.hid hok
            clear hx hca
            obtain ⟨P, hP⟩ : ∃ P, bp (rc.take j) = P := ⟨_, rfl⟩
            obtain ⟨T, hT⟩ : ∃ T, bt (rc.take j) = T := ⟨_, rfl⟩
            have HPT := Lib.hid (And.intro hP hT)
            rw [hP] at x0 HPB
            rw [hT] at x1 HPB
            clear hP hT hok
            by_cases hpos : 0 < x
            · obtain ⟨k, hk⟩ : ∃ k : Nat, x - 1 = (k : Int) := ⟨(x - 1).toNat, by omega⟩
              have hw1 : wrap64 (x - 1) = (k : Int) := by rw [hk]; exact w64_small _ (by omega) (by have := HX.out; unfold LOk at this; omega)
              have hw2 : IntKind.i64.wrap (x - 1) = (k : Int) := by rw [hk, IntKind.wrap_i64]; have := HX.out; unfold LOk at this; omega
              have q5 : (0 : Int) ≤ (k : Int) := by omega
              have HKX := Lib.hid hk
              clear hk
              go_wp2_with fail
              go_region
              have hk24 : k < 24 := by have h1 := HX.out; have h2 := HKX.out; unfold LOk at h1; omega
              rw [or_bit HPB.out.1 hk24]
              have HN : Hid (HasB (wr.setCell ⟨w1.heap.size, 0, none⟩ (.int .u32 ((P ||| 2 ^ k : Nat) : Int))).drew w1.heap.size 150 #[.int .u32 (bp (rc.take (j + 1)) : Int), .int .u32 (bt (rc.take (j + 1)) : Int)] ∧ Below w1.heap.size w1 (wr.setCell ⟨w1.heap.size, 0, none⟩ (.int .u32 ((P ||| 2 ^ k : Nat) : Int))).drew) := by
                rw [HTJ.out, bp_snoc, bt_snoc, if_pos hpos, if_pos hpos, show (x - 1).toNat = k by rw [HKX.out]; rfl, HPT.out.1]
                exact ⟨M.out.1.put 0 _, Below.draws (M.out.2.setCell (Nat.le_refl _) _) 1⟩
              clear M x0 x1 f0 f1
              go_wp2_with fail
              go_roundw
              case rel => exact ⟨j + 1, by omega, by go_num, HN⟩
              case measure => simp [intOf]; omega
            · obtain ⟨k, hk⟩ : ∃ k : Nat, -x - 1 = (k : Int) := ⟨(-x - 1).toNat, by have := HX.out; unfold LOk at this; omega⟩
              have hw1 : wrap64 (wrap64 (-x) - 1) = (k : Int) := by
                have h1 : wrap64 (-x) = -x := w64_small _ (by omega) (by have := HX.out; unfold LOk at this; omega)
                rw [h1, hk]; exact w64_small _ (by omega) (by have := HX.out; unfold LOk at this; omega)
              have hw2 : IntKind.i64.wrap (IntKind.i64.wrap (-x) - 1) = (k : Int) := by
                have h1 : IntKind.i64.wrap (-x) = -x := by rw [IntKind.wrap_i64]; have := HX.out; unfold LOk at this; omega
                rw [h1, hk, IntKind.wrap_i64]; have := HX.out; unfold LOk at this; omega
              have q5 : (0 : Int) ≤ (k : Int) := by omega
              have HKX := Lib.hid hk
              clear hk
              go_wp2_with fail
              go_region
              have hk24 : k < 24 := by have h1 := HX.out; have h2 := HKX.out; unfold LOk at h1; omega
              rw [or_bit HPB.out.2 hk24]
              have HN : Hid (HasB (wr.setCell ⟨w1.heap.size, 1, none⟩ (.int .u32 ((T ||| 2 ^ k : Nat) : Int))).drew w1.heap.size 150 #[.int .u32 (bp (rc.take (j + 1)) : Int), .int .u32 (bt (rc.take (j + 1)) : Int)] ∧ Below w1.heap.size w1 (wr.setCell ⟨w1.heap.size, 1, none⟩ (.int .u32 ((T ||| 2 ^ k : Nat) : Int))).drew) := by
                rw [HTJ.out, bp_snoc, bt_snoc, if_neg (by omega), if_neg (by omega), show (-x - 1).toNat = k by rw [HKX.out]; rfl, HPT.out.2]
                exact ⟨M.out.1.put 1 _, Below.draws (M.out.2.setCell (Nat.le_refl _) _) 1⟩
              clear M x0 x1 f0 f1
              go_wp2_with fail
              go_roundw
              case rel => exact ⟨j + 1, by omega, by go_num, HN⟩
              case measure => simp [intOf]; omega
          · obtain rfl : j = rc.length := by omega
            rw [List.take_length] at M
            have x0 := M.out.1.cell 0
            have x1 := M.out.1.cell 1
            have z8 := lt_of_heap M.out.1
            have MR := Lib.hid (HR1.out.below M.out.2)
            have hcl : (cls (f.take i)).length ≤ 100000 := by
              have h1 : (cls (f.take i)).length ≤ (f.take i).length := by
                unfold cls; exact Nat.le_trans (List.length_filter_le _ _) (Nat.le_of_eq (List.length_map _))
              rw [List.length_take] at h1; omega
            generalize cls (f.take i) = l2 at *
            go_wp2_with (at_builtin; refine wpList_append_lies _ rfl _ _ _ rfl 0 150 i0 _ 2 8 Tryz.underlying76 HI.out.1 HI.out.2.1 HI.out.2.2.1 HI.out.2.2.2 rfl (by omega) (.slice A2 l2.length c2) l2.length (mkCells l2) rfl (MR.out.R.1.alloc _) ⟨wr.heap.size, 0, none⟩ 1 1 [.int .u32 (bp rc : Int), .int .u32 (bt rc : Int)] rfl rfl (World.news_of_block (cs := #[.int .u32 (bp rc : Int), .int .u32 (bt rc : Int)]) (t := 150) (fr := (0, 0)) (new_heap wr _)) (by simp [Value.oneCell']) (by omega) (by unfold maxLen; omega) (by omega) (Nat.zero_le _) (wr.heap.size + 1) (by simp) ?_; intro g1 c1 wp hown1 hg1 hat1 hlt1; have HG := Lib.hid (MR.out.R.fin2 _ _ wp c1 g1 hg1 hown1 (by simpa using hat1)); clear hown1 hg1 hat1 hlt1)
            go_roundw
            case rel => exact ⟨i + 1, some ⟨g1, 0, none⟩, c1, _, by omega, by go_num, by rw [HC2.out]; simp, by rw [HC2.out]; exact ⟨by have := HG.out.1; rw [List.length_append]; unfold mkCells at this ⊢; rw [List.flatMap_append]; simpa using this, MR.out.T.trans HG.out.2⟩⟩
            case measure => simp [intOf]; omega
    · obtain rfl : i = f.length := by omega
      rw [List.take_length] at R ⊢
      have HE : Hid (MoPost f w (.returned (.slice A2 (cls f).length c2)) wr) := ⟨τ', A2, c2, rfl, R.out.R, R.out.T⟩
      go_wp2_with fail
      go_ret
      exact HE.out
end
end Go.Proofs.YtcebpbjpbnfacaaGreat
