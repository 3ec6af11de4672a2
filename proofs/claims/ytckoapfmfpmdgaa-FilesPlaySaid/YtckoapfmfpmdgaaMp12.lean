/-
  Parts of the proof, joined: FileF, FileG, FileH.
-/
import Derived.Test.YtckoapfmfpmdgaaMp11

namespace Go.Proofs.Ytckoapfmfpmdgaa
open Go.ChangeShapes Go.WideShapes Go.ChangeAt Go.RowKit Go.Joins
set_option linter.unusedVariables false
set_option linter.unusedSimpArgs false

/-- A slice of bytes that is handed in. -/
def BtA (w : World) (y : Value) (l : List UInt8) : Prop := ∃ A cap, y = .slice A l.length cap ∧ l.length ≤ cap ∧ cap ≤ 9223372036854775807 ∧
  ∀ (j : Nat) c, l[j]? = some c → ∃ b off, A = some ⟨b, off, none⟩ ∧ w.cell? ⟨b, off + j, none⟩ = some (.int .u8 (c.toNat : Int))
theorem BtA.on {w w' : World} {y : Value} {l : List UInt8} (H : BtA w y l) (K : Gw w w') : BtA w' y l := by
  obtain ⟨A, cap, h1, h2, h3, h4⟩ := H
  refine ⟨A, cap, h1, h2, h3, fun j c hj => ?_⟩
  obtain ⟨b, off, e, hc⟩ := h4 j c hj
  exact ⟨b, off, e, K.cell hc⟩
/-- Grown with noughts to so many. -/
def padL (l : List UInt8) (m : Nat) : List UInt8 := l ++ List.replicate (m - l.length) 0
theorem padL_len (l : List UInt8) {m : Nat} (h : l.length ≤ m) : (padL l m).length = m := by unfold padL; simp; omega
theorem padL_self (l : List UInt8) : padL l l.length = l := by unfold padL; simp
theorem padL_next (l : List UInt8) {m : Nat} (h : l.length ≤ m) : padL l (m + 1) = padL l m ++ [0] := by
  unfold padL
  rw [show m + 1 - l.length = (m - l.length) + 1 by omega, List.replicate_succ', List.append_assoc]
theorem put_splice (l b : List UInt8) (a : Nat) : splice (padL l (max l.length (a + b.length))) a b = putL l a b := by
  unfold splice putL
  have e1 : max l.length (a + b.length) - l.length = a + b.length - l.length := by omega
  have e2 : padL l (max l.length (a + b.length)) = l ++ List.replicate (a + b.length - l.length) 0 := by unfold padL; rw [e1]
  rw [e2, List.append_assoc]
  congr 2
  by_cases h : a + b.length ≤ l.length
  · rw [show a + b.length - l.length = 0 by omega]; simp
  · rw [List.drop_append, List.drop_eq_nil_of_le (by omega : l.length ≤ a + b.length), List.drop_replicate]; simp
theorem put_len (l b : List UInt8) (a : Nat) : (putL l a b).length = max l.length (a + b.length) := by
  rw [← put_splice, length_splice _ _ _ (by rw [padL_len _ (Nat.le_max_left _ _)]; exact Nat.le_max_right _ _), padL_len _ (Nat.le_max_left _ _)]
section
variable {bz : Nat} {tau : Nat → Nat} {G : Gd} {w : World} {h : Nat} {s : Fs}
/-- How long a slice is. -/
def sLen : Value → Nat
  | .slice _ n _ => n
  | _ => 0
theorem own_form1 {e : TypeId} {v : Value} {n : Nat} {xs : List Value} {B : Nat} (H : w.ownsRow B e 1 v n xs) : ∃ A cap, v = .slice A n cap := by
  rcases own_sl H with ⟨h1, h2⟩ | ⟨r, cap, h1, _⟩
  · exact ⟨none, 0, by rw [h1, h2]⟩
  · exact ⟨_, cap, h1⟩
theorem splice_take {α : Type} (z x : List α) {a m : Nat} (h : a + x.length ≤ m) : (splice z a x).take m = splice (z.take m) a x := by
  unfold splice
  have e : ∀ (u : List α), u.take a = (u.take m).take a := fun u => by rw [List.take_take, Nat.min_eq_left (by omega)]
  by_cases hz : a ≤ z.length
  · have hl : (z.take a).length = a := by rw [List.length_take]; omega
    rw [List.take_append, hl, List.take_append, List.take_of_length_le (by omega : x.length ≤ m - a), List.take_of_length_le (by omega : (z.take a).length ≤ m), e z, List.drop_take]
    congr 3
    omega
  · have h1 : z.take a = z := List.take_of_length_le (by omega)
    have h2 : z.drop (a + x.length) = [] := List.drop_eq_nil_of_le (by omega)
    have h3 : z.take m = z := List.take_of_length_le (by omega)
    rw [h1, h2, h3, h1, h2, List.take_of_length_le (by simp; omega)]
set_option maxRecDepth 100000 in
set_option maxHeartbeats 8000000 in
theorem rwrite_any (H : FR bz tau G w h s) (fd : Nat) (hfd : fd ≤ 65535) {y : Value} {lb : List UInt8} (hy : BtA w y lb) : Calls Try.prog 62 #[.pointer (some ⟨h, 0, none⟩), .int .u16 (fd : Int), y] w fun e w' => e = .returned (.int .u16 (writeF s fd lb).1) ∧ FTo bz tau w h (writeF s fd lb).2 w' := by
  have OF := of_file H fd hfd
  have HH := Lib.hid H
  obtain ⟨A2, cb, rfl, y1, y2, hY⟩ := hy
  have HY := Lib.hid hY
  clear hY
  unfold writeF
  cases hi : ofI s fd with
  | none =>
    rw [ofV_no hi] at OF
    clear hi H
    go_enter Try.func62, Try.ntmps62
    go_wp2_with (go_at_call 89; with_reducible refine OF.mono ?_; rintro e w1 ⟨rfl, G1⟩)
    go_ret
    exact ⟨rfl, FTo.of_gw HH.out G1⟩
  | some i =>
    obtain ⟨h4, hil, hk⟩ := ofI_lt H.ok hi
    obtain ⟨b, hb⟩ := H.pt hil
    rw [ofV_at hi hb] at OF
    simp only
    obtain ⟨Lb, hLb⟩ : ∃ Lb, Lb = lb.length := ⟨_, rfl⟩
    have HLb := Lib.hid hLb
    rw [← hLb] at y1 ⊢
    by_cases hlb0 : lb = []
    · subst hlb0
      rw [if_pos rfl]
      have z : Lb = 0 := hLb
      subst z
      clear hi H hLb
      go_enter Try.func62, Try.ntmps62
      go_wp2_with (go_at_call 89; with_reducible refine OF.mono ?_; rintro e w1 ⟨rfl, G1⟩)
      go_ret
      exact ⟨rfl, FTo.of_gw HH.out G1⟩
    rw [if_neg hlb0]
    have hLb0 : 0 < Lb := by rw [hLb]; exact List.length_pos_iff.2 hlb0
    have eLb : ((Lb : Int) == 0) = false := by simp; omega
    obtain ⟨hf, hd, hd8, hat⟩ := get_dat H.ok hil
    obtain ⟨c0, c1, f1⟩ := H.opc hb hil
    obtain ⟨r, cap, x, d0, d1, d2, d3, d4, d5, d6⟩ := H.row hf
    obtain ⟨A, cx, rfl, x1, x2, x3⟩ := H.by_ _ _ _ d3 hd
    have HPB := Lib.hid hb
    have HIL := Lib.hid hil
    have HBL := Lib.hid (lt_cell c0)
    have HX := Lib.hid x3
    have HFN := Lib.hid hf
    have HD6 := Lib.hid d6
    obtain ⟨l, hll⟩ : ∃ l, l = datI s i := ⟨_, rfl⟩
    rw [← hll] at x1 d4 HX hd8 ⊢
    obtain ⟨L, hL⟩ : ∃ L, L = l.length := ⟨_, rfl⟩
    have HL := Lib.hid hL
    rw [← hL] at x1 d4 hd8
    obtain ⟨F, hF⟩ : ∃ F, F = filI s i := ⟨_, rfl⟩
    have HF := Lib.hid hF
    rw [← hF] at c0 d4 d5 hf HFN ⊢
    obtain ⟨at_, hat_⟩ : ∃ at_, at_ = offI s i := ⟨_, rfl⟩
    have HAT := Lib.hid hat_
    rw [← hat_] at c1 hat ⊢
    obtain ⟨N, hN⟩ : ∃ N, N = s.d.length := ⟨_, rfl⟩
    have HN := Lib.hid hN
    rw [← hN] at d0 d1 hf
    have HC : ∀ w', Gw w w' → w'.cell? ⟨b, 0, none⟩ = some (.int .i64 (F : Int)) ∧ w'.cell? ⟨b, 1, none⟩ = some (.int .i64 (at_ : Int)) ∧ w'.frozen? ⟨b, 1, none⟩ = false ∧ w'.cell? ⟨h, 1, none⟩ = some (.slice (some ⟨r, 0, none⟩) N cap) ∧ w'.cell? ⟨r, F, none⟩ = some (.slice A L cx) ∧ w'.frozen? ⟨r, F, none⟩ = false :=
      fun w' K => ⟨K.cell c0, K.cell c1, (K.frz c1).trans f1, K.cell d0, K.cell d4, (K.frz d4).trans d5⟩
    clear hi H c0 c1 f1 d0 d3 d4 d5 d6 x3 hd hk hb hll hL hF hN hat_ hil hlb0 hLb
    by_cases h8 : 8 ≤ at_
    · rw [if_pos h8]
      have e8 : decide ((8 : Int) ≤ (at_ : Int)) = true := decide_eq_true (by omega)
      go_enter Try.func62, Try.ntmps62
      go_upto_region 4 with (go_at_call 89; with_reducible refine OF.mono ?_; rintro e w1 ⟨rfl, G1⟩)
      obtain ⟨c0, c1, f1, d0, d4, d5⟩ := HC _ G1
      go_wp2
      go_ret
      exact ⟨rfl, FTo.of_gw HH.out G1⟩
    rw [if_neg h8]
    have e8 : decide ((8 : Int) ≤ (at_ : Int)) = false := decide_eq_false (by omega)
    obtain ⟨k, hk⟩ : ∃ k, k = min Lb (8 - at_) := ⟨_, rfl⟩
    have hmin : min (Lb : Int) ((8 : Int) - (at_ : Int)) = (k : Int) := by rw [hk, Int.min_def]; split <;> omega
    have hk1 : 1 ≤ k ∧ k ≤ Lb ∧ at_ + k ≤ 8 := by omega
    have hX : lb.take (8 - at_) = lb.take k := by
      rw [hk, HLb.out]
      by_cases e : lb.length ≤ 8 - at_
      · rw [Nat.min_eq_left e, List.take_of_length_le e, List.take_of_length_le (Nat.le_refl _)]
      · rw [Nat.min_eq_right (by omega)]
    rw [hX, ← hk]
    have HKL : Hid ((lb.take k).length = k) := by show _ = _; rw [List.length_take, ← HLb.out]; omega
    clear hk hX
    obtain ⟨P, hP⟩ : ∃ P, P = at_ + k := ⟨_, rfl⟩
    have hPi : (at_ : Int) + (k : Int) = (P : Int) := by omega
    obtain ⟨i0, hi1, hi2, hi3, hi4⟩ := info_u8
    have HI := Lib.hid (And.intro hi1 (And.intro hi2 (And.intro hi3 hi4)))
    have HP := Lib.hid hP
    have hm8 : Hid (maxLen = 9223372036854775807) := rfl
    clear hi1 hi2 hi3 hi4 hP
    obtain ⟨Q, hQ⟩ : ∃ Q, Q = max L P := ⟨_, rfl⟩
    have HQ := Lib.hid hQ
    have hQ8 : Q ≤ 8 := by have := HP.out; omega
    clear hQ
    go_enter Try.func62, Try.ntmps62
    go_upto_region 4 with (go_at_call 89; with_reducible refine OF.mono ?_; rintro e w1 ⟨rfl, G1⟩)
    obtain ⟨c0, c1, f1, d0, d4, d5⟩ := HC _ G1
    have G2 := Lib.hid (G1.trans (Gw.refl w1).drew)
    go_upto_region 9 with fail
    clear OF c0 c1 f1 d0 d4 d5
    obtain ⟨c0, c1, f1, d0, d4, d5⟩ := HC _ G2.out
    go_cut [9] (fun v wr => ∃ A cap, v = .slice A L cap ∧ Hid (wr.ownsRow w.heap.size 5 1 v L (byV l)) ∧ Hid (Gw w wr))
    case first =>
      rcases Nat.eq_zero_or_pos L with hL0 | hL0
      · have hl0 : l = [] := List.eq_nil_of_length_eq_zero (by rw [← HL.out]; exact hL0)
        subst hL0
        have HL0 := Lib.hid hl0
        clear hl0
        cases A with
        | none =>
          go_region
          go_wp2
          go_meet
          exact ⟨none, 0, rfl, by rw [HL0.out]; exact World.ownsRow_nil _ _ _ 1, G2.out⟩
        | some ad =>
          go_region_law (refine step_append_own _ (by rfl) _ _ _ (by rfl) w.heap.size 5 i0 _ 1 1 Try.underlying52 HI.out.1 HI.out.2.1 HI.out.2.2.1 HI.out.2.2.2 rfl (by omega) (.slice none 0 0) 0 [] (by rfl) (World.ownsRow_nil _ _ _ 1) ad 0 _ [] (by rfl) (by rfl) (fun j u hj => by simp at hj) (fun u hu => by cases hu) (by have := hm8.out; omega) (by omega) G2.out.size ?_; intro v1 p1 own1 gr1 at1)
          all_goals (
            have G3 := Lib.hid (G2.out.grown gr1 (fun _ e => by cases e))
            obtain ⟨A', cap', rfl⟩ := own_form1 own1
            have OW := Lib.hid own1
            clear own1 gr1 at1
            go_wp2
            go_meet
            exact ⟨A', cap', rfl, by rw [HL0.out]; exact OW.out, G3.out⟩)
      · obtain ⟨bA, off, rfl, HXC⟩ : ∃ bA off, A = some ⟨bA, off, none⟩ ∧ ∀ (j : Nat) c, l[j]? = some c → w.cell? ⟨bA, off + j, none⟩ = some (.int .u8 (c.toNat : Int)) := by
          obtain ⟨c0, hc0⟩ : ∃ c0, l[0]? = some c0 := ⟨_, List.getElem?_eq_getElem (by have := HL.out; omega)⟩
          obtain ⟨b', o', hA, _, _⟩ := HX.out 0 c0 hc0
          refine ⟨b', o', hA, fun j c hj => ?_⟩
          obtain ⟨b'', o'', hA', _, hc⟩ := HX.out j c hj
          rw [hA] at hA'
          cases hA'
          exact hc
        have N1 : Hid (∀ (j : Nat) u, (byV l)[j]? = some u → w1.drew.cell? ((⟨bA, off, none⟩ : Addr).add j) = some u) := fun j u hj => by
          obtain ⟨c, hc, rfl⟩ := byV_of hj
          rw [add_eq]
          exact G2.out.cell (HXC _ _ hc)
        clear HXC
        go_region_law (refine step_append_own _ (by rfl) _ _ _ (by rfl) w.heap.size 5 i0 _ 1 1 Try.underlying52 HI.out.1 HI.out.2.1 HI.out.2.2.1 HI.out.2.2.2 rfl (by omega) (.slice none 0 0) 0 [] (by rfl) (World.ownsRow_nil _ _ _ 1) ⟨bA, off, none⟩ L _ (byV l) (by rfl) (by rw [byV_len, HL.out]; omega) N1.out (byV_one _) (by have := hm8.out; omega) (by omega) G2.out.size ?_; intro v1 p1 own1 gr1 at1)
        all_goals (
          have G3 := Lib.hid (G2.out.grown gr1 (fun _ e => by cases e))
          rw [Nat.zero_add, List.nil_append] at own1
          obtain ⟨A', cap', rfl⟩ := own_form1 own1
          have OW := Lib.hid own1
          clear own1 gr1 at1
          go_wp2
          go_meet
          exact ⟨A', cap', rfl, OW.out, G3.out⟩)
    case rest =>
      obtain ⟨Av, cv, rfl, OW, G3⟩ := hcut
      clear c0 c1 f1 d0 d4 d5
      go_upto_region 10 with fail
      go_loopw [9] (fun v wr => ∃ (m : Nat) (A : Option Addr) (cap : Nat), v = .slice A m cap ∧ L ≤ m ∧ m ≤ Q ∧ Hid (wr.ownsRow w.heap.size 5 1 v m (byV (padL l m))) ∧ Hid (Gw w wr)) (fun v _ => P - sLen v)
      case atStart => exact ⟨L, Av, cv, rfl, Nat.le_refl _, by have := HQ.out; omega, by show World.ownsRow _ _ _ _ _ _ _; rw [HL.out, padL_self]; rw [← HL.out]; exact OW.out, G3.out⟩
      case round =>
        clear OW G3
        obtain ⟨m, A', cap', rfl, hm1, hm2, OW, G3⟩ := hrel
        obtain ⟨c0, c1, f1, d0, d4, d5⟩ := HC _ G3.out
        by_cases hmP : m < P
        · have hmP' : (m : Int) < (P : Int) := by omega
          have hmL : l.length ≤ m := by have := HL.out; omega
          have OW2 := Lib.hid (own_keep (w' := wr.alloc (.cells #[.int .u8 0] 5)) OW.out (fun b _ hb => Below.heap_alloc wr _ b hb))
          have HPN := Lib.hid (padL_next l hmL)
          have HWW := Lib.hid (Nat.le_trans G3.out.size (alloc_size wr (.cells #[.int .u8 0] 5)))
          have HQP : m + 1 ≤ Q := by have := HQ.out; omega
          go_wp2_with (at_builtin; refine wpList_append_lies _ rfl _ _ _ rfl w.heap.size 5 i0 _ 1 1 Try.underlying52 HI.out.1 HI.out.2.1 HI.out.2.2.1 HI.out.2.2.2 rfl (by omega) (.slice A' m cap') m (byV (padL l m)) rfl OW2.out ⟨wr.heap.size, 0, none⟩ 1 1 [.int .u8 0] rfl rfl (World.news_of_block (heap_alloc_new wr _)) (by simp [Value.oneCell']) (by omega) (by have := hm8.out; omega) (by omega) HWW.out _ rfl ?_; intro g1 c1' wp own1 gr1 at1 hlt1)
          have G4 := Lib.hid ((G3.out.trans (Gw.alloc wr _)).grown gr1 (fun q hq => by
            rcases OW2.out.2 with ⟨h0, _⟩ | ⟨g', cap'', cur, h0, h1, _⟩
            · rw [h0] at hq; cases hq
            · rw [h0] at hq; cases hq; exact h1))
          have OW3 : Hid (wp.ownsRow w.heap.size 5 1 (.slice (some ⟨g1, 0, none⟩) (m + 1) c1') (m + 1) (byV (padL l (m + 1)))) := by show World.ownsRow _ _ _ _ _ _ _; rw [HPN.out, byV_app]; exact own1
          clear own1 gr1 at1 hlt1 OW OW2
          go_roundw
          case rel => exact ⟨m + 1, _, _, rfl, by omega, HQP, OW3.out, G4.out⟩
          case measure => simp [sLen]; omega
        · have hmP' : decide ((m : Int) < (P : Int)) = false := decide_eq_false (by omega)
          have hmQ : m = Q := by have := HQ.out; omega
          have hPm : at_ + k ≤ m := by have := HP.out; omega
          obtain ⟨g, cur, hA', hgB, hgc, hcs, hct⟩ : ∃ g cur, A' = some ⟨g, 0, none⟩ ∧ w.heap.size ≤ g ∧ wr.heap[g]? = some (.cells (cur : List Value).toArray 5 (0, 0)) ∧ (m ≤ cap' ∧ cap' ≤ 9223372036854775807 ∧ cur.length = cap') ∧ cur.take m = byV (padL l m) := by
            rcases OW.out.2 with ⟨h0, h0'⟩ | ⟨g', cap'', cur, h0, h1, h2, h3, h4, h5, h6⟩
            · omega
            · cases h0
              rw [Nat.mul_one] at h5 h6
              exact ⟨g', cur.toList, rfl, h1, by simpa using h2, ⟨h3, h4, by simpa using h5⟩, h6⟩
          subst hA'
          obtain ⟨hm3, hm4, hm5⟩ := hcs
          obtain ⟨ad, hA2, HYC⟩ : ∃ ad, A2 = some ad ∧ ∀ (j : Nat) u, (byV (lb.take k))[j]? = some u → w.cell? (ad.add j) = some u := by
            obtain ⟨c0, hc0⟩ : ∃ c0, lb[0]? = some c0 := ⟨_, List.getElem?_eq_getElem (by have := HLb.out; omega)⟩
            obtain ⟨b', o', hA, _⟩ := HY.out 0 c0 hc0
            refine ⟨_, hA, fun j u hj => ?_⟩
            obtain ⟨c, hc, rfl⟩ := byV_of hj
            rw [List.getElem?_take] at hc
            split at hc
            · obtain ⟨b'', o'', hA', hcell⟩ := HY.out j c hc
              rw [hA] at hA'
              cases hA'
              rw [add_eq]
              exact hcell
            · cases hc
          subst hA2
          have G5 := Lib.hid (G3.out.trans (Gw.refl wr).drew)
          have N2 : Hid (∀ (j : Nat) u, (byV (lb.take k))[j]? = some u → wr.drew.cell? (ad.add j) = some u) := fun j u hj => by
            obtain ⟨ab, ao, sp⟩ := ad
            have := HYC j u hj
            exact (World.cell?_of_block (G5.out.block _ (World.block_lt_of_cell? w _ this))).trans this
          have HGC := Lib.hid hgc
          have HGB := Lib.hid hgB
          have HCT := Lib.hid hct
          obtain ⟨X, hX⟩ : ∃ X, X = byV (lb.take k) := ⟨_, rfl⟩
          rw [← hX] at N2
          have HXX := Lib.hid hX
          have HXL : Hid (X.length = k) := by show _ = _; rw [hX, byV_len]; exact HKL.out
          have b1 : (at_ : Int) ≤ (m : Int) := by omega
          have b2 : (m : Int) ≤ (cap' : Int) := by omega
          have b3 : ¬ cap' = at_ := by omega
          have b4 : (k : Int) ≤ (cb : Int) := by omega
          have b5 : (0 : Int) ≤ (at_ : Int) := by omega
          have b6 : (0 : Int) ≤ (k : Int) := by omega
          have HMQ := Lib.hid hmQ
          go_upto_region 12 with fail
          clear hgc hgB hct hX HYC OW hmQ c0 c1 f1 d0 d4 d5
          obtain ⟨c0, c1, f1, d0, d4, d5⟩ := HC _ G5.out
          go_region_law (refine step_copy_splice (by rfl) _ _ _ _ (by rfl) 5 Try.underlying52 (by kernel_rfl) (some ⟨g, at_, none⟩) (some ad) (m - at_) (cap' - at_) k cb (by rfl) (by rfl) g at_ cur 5 HGC.out X (by rw [HXL.out]; exact (Nat.min_eq_left (by omega)).symm) (fun _ => ⟨rfl, ad, rfl, N2.out⟩) (by rw [HXL.out]; omega) (by rw [HXX.out]; exact byV_one _) w.heap.size _ (Below.refl _ _) HGB.out ?_; intro w3 hg3 hb3)
          all_goals (
            have G6 := Lib.hid ((Gw.under G5.out hb3).trans (Gw.refl w3).drew)
            have hpl : (putL l at_ (lb.take k)).length = m := by rw [put_len, HKL.out, ← HL.out, ← HP.out, HMQ.out, HQ.out]
            have HPL := Lib.hid hpl
            have hcells : ∀ (j : Nat) c, (putL l at_ (lb.take k))[j]? = some c → w3.drew.cell? ⟨g, j, none⟩ = some (.int .u8 (c.toNat : Int)) := fun j c hj => by
              have h1 : w3.drew.cell? ⟨g, j, none⟩ = (splice cur at_ X).toArray[j]? := cell_of_row w3 g j _ _ _ hg3.out
              have h2 : (splice cur at_ X).take m = byV (putL l at_ (lb.take k)) := by
                rw [HXX.out, splice_take _ _ (by rw [byV_len, HKL.out]; exact hPm), HCT.out, byV_splice, ← put_splice, HKL.out, ← HL.out, ← HP.out, ← HQ.out, HMQ.out]
              have h3 := byV_at hj
              rw [← h2, List.getElem?_take] at h3
              rw [h1]
              split at h3
              · simpa using h3
              · cases h3
            obtain ⟨hc, tau', G', H4, hps, hnew⟩ := HH.out.setd2 G6.out HFN.out HD6.out (l := putL l at_ (lb.take k)) (by rw [hpl, HMQ.out]; exact hQ8) HGB.out (show g < w3.heap.size from lt_of_heap hg3.out) (by rw [hpl]; exact hm3) hm4 hcells
            rw [hpl] at hc H4
            have H4 := Lib.hid H4
            obtain ⟨k0, k1, kf⟩ := H4.out.opc (by rw [hps]; exact HPB.out) HIL.out
            have e1 : offI { t := s.t, d := s.d.set F (putL l at_ (lb.take k)), o := s.o, fd := s.fd } i = at_ := HAT.out.symm
            rw [e1] at k1
            have k1' : (w3.setCell ⟨r, F, none⟩ (.slice (some ⟨g, 0, none⟩) m cap')).drew.cell? ⟨b, 1, none⟩ = some (.int .i64 (at_ : Int)) := k1
            have kf' : (w3.setCell ⟨r, F, none⟩ (.slice (some ⟨g, 0, none⟩) m cap')).drew.frozen? ⟨b, 1, none⟩ = false := kf
            have HS := H4.out.setat (by rw [hps]; exact HPB.out) HIL.out (a := P) (by omega)
            have HR := Lib.hid (FTo.step hc hnew HS)
            clear HS hc hnew hps hpl hcells hb3 hg3 c0 c1 f1 d0 d4 d5 k0 k1 kf
            obtain ⟨c0, c1, f1, d0, d4, d5⟩ := HC _ G6.out
            go_upto_region 13 with fail
            go_region
            go_wp2
            go_ret
            refine ⟨rfl, ?_⟩
            have := HR.out
            rw [← HP.out]
            rw [show filI { t := s.t, d := s.d.set F (putL l at_ (lb.take k)), o := s.o, fd := s.fd } i = F from HF.out.symm] at this
            exact this)
end
end Go.Proofs.Ytckoapfmfpmdgaa

namespace Go.Proofs.Ytckoapfmfpmdgaa
open Go.ChangeShapes Go.WideShapes Go.ChangeAt Go.RowKit Go.Joins
set_option linter.unusedVariables false
set_option linter.unusedSimpArgs false

/-- Where the base of a row's block is. -/
theorem own_ge {w : World} {B : Nat} {e : TypeId} {size n : Nat} {v : Value} {xs : List Value} (h : w.ownsRow B e size v n xs) : ∀ b, v.ownBlock = some b → B ≤ b ∧ b < w.heap.size := by
  intro b hb
  rcases h.2 with ⟨h0, _⟩ | ⟨g, cap, cur, h0, h1, h2, _⟩
  · rw [h0] at hb; cases hb
  · rw [h0] at hb; cases hb; exact ⟨h1, lt_of_heap h2⟩
section
variable {bz : Nat} {tau : Nat → Nat} {G : Gd} {w : World} {h : Nat} {s : Fs}
/-- The parts with those of a row's block. -/
def tagV (tau : Nat → Nat) (v : Value) (n : Nat) : Nat → Nat := fun b => if v.ownBlock = some b then n else tau b
theorem tagV_old {v : Value} {n m b : Nat} (h : tau b = m + 1) (hv : v.ownBlock = some b → n = m + 1) : tagV tau v n b = m + 1 := by
  unfold tagV
  split
  · rename_i e; exact hv e
  · exact h
theorem FR.tree2 (H : FR bz tau G w h s) {w' : World} {t' : St} (k : RTo bz w G.g G.sl t' w') : Fc tau w w' ∧ ∃ tau' G', FR bz tau' G' w' h { s with t := t' } ∧ G'.ps = G.ps ∧ G'.g = G.g ∧ G'.dv = G.dv ∧ G'.ov = G.ov ∧ G'.ds = G.ds ∧ ∀ k, k < w.heap.size → tau' k ≠ 0 → tau k ≠ 0 := by
  obtain ⟨sl', hR, hn⟩ := k.ex
  have q : ∀ c, c < w.heap.size → tau c ≠ 2 → w'.heap[c]? = w.heap[c]? := fun c hc ht => k.ch.block c hc (fun e => ht (by rw [e]; exact H.tg)) (fun e => ht (H.ts c e))
  have qn : ∀ c m, tau c = m + 1 → m ≠ 1 → w'.heap[c]? = w.heap[c]? := fun c m e hm => q c (H.lt c (by omega)).2 (by omega)
  have new : ∀ c m, tau c = m + 1 → sl'.ownBlock = some c → 2 = m + 1 := fun c m e hc => by
    rcases hn c hc with h1 | h1
    · have := H.ts c h1; omega
    · have := (H.lt c (by omega)).2; omega
  have hz := k.ch.size
  refine ⟨⟨k.ch.os, k.ch.output, hz, fun c hc ht => q c hc (by omega)⟩, tagV tau sl' 2, { G with sl := sl' }, ?_, rfl, rfl, rfl, rfl, rfl, fun c hc ht => ?_⟩
  · refine ⟨H.hd.same (qn h 0 H.th (by decide)), hR, own_same H.dr (fun c hc => qn c 2 (H.td c hc) (by decide)), own_same H.or_ (fun c hc => qn c 3 (H.tov c hc) (by decide)), fun j c x hc hx => (H.oc j c x hc hx).same (qn c (5 + j) (by rw [H.tp j c hc]; omega) (by omega)),
      fun j x l hx hl => (H.by_ j x l hx hl).on fun c hc ht => ⟨?_, ht.imp id (fun e => tagV_old e (new c 4 e))⟩, tagV_old H.th (new h 0 H.th), tagV_old H.tg (new _ 1 H.tg), fun c hc => if_pos hc, fun c hc => tagV_old (H.td c hc) (new c 2 (H.td c hc)), fun c hc => tagV_old (H.tov c hc) (new c 3 (H.tov c hc)), fun j c hc => ?_, fun c hc => ?_, Nat.le_trans H.hz hz, ⟨H.ok.fl, H.ok.fds, H.ok.os, H.ok.ds⟩⟩
    · rcases ht with ht | ht
      · refine q c hc (fun e => ?_)
        have := (H.lt c (by omega)).1
        omega
      · exact qn c 4 ht (by decide)
    · have e : tau c = 5 + j + 1 := by rw [H.tp j c hc]; omega
      have := tagV_old (v := sl') (n := 2) e (new c _ e)
      omega
    · unfold tagV at hc
      split at hc
      · rename_i e
        have := own_ge hR.row c e
        exact this
      · have := H.lt c hc
        exact ⟨this.1, Nat.lt_of_lt_of_le this.2 hz⟩
  · unfold tagV at ht
    split at ht
    · rename_i e
      rcases hn c e with h1 | h1
      · rw [H.ts c h1]; decide
      · omega
    · exact ht
/-- One more number with no bytes. -/
theorem FR.addd (H : FR bz tau G w h s) {w2 : World} {v' : Value} (os : w2.os = w.os) (ou : w2.output = w.output) (hz : w.heap.size ≤ w2.heap.size) (hh : Has w2 h 118 (hC G.g v' G.ov s.fd))
    (own : w2.ownsRow bz 52 1 v' (s.d.length + 1) (G.ds ++ [.slice none 0 0])) (at_ : ∀ b, v'.ownBlock = some b → G.dv.ownBlock = some b ∨ w.heap.size ≤ b) (q : ∀ c, c < w.heap.size → c ≠ h → G.dv.ownBlock ≠ some c → w2.heap[c]? = w.heap[c]?) :
    Fc tau w w2 ∧ ∃ tau' G', FR bz tau' G' w2 h { s with d := s.d ++ [[]] } ∧ G'.ps = G.ps ∧ G'.g = G.g ∧ G'.sl = G.sl ∧ G'.ov = G.ov ∧ ∀ k, k < w.heap.size → tau' k ≠ 0 → tau k ≠ 0 := by
  have qn : ∀ c m, tau c = m + 1 → m ≠ 0 → m ≠ 2 → w2.heap[c]? = w.heap[c]? := fun c m e h0 h2 => q c (H.lt c (by omega)).2 (fun e2 => by have := H.th; rw [← e2] at this; omega) (fun e2 => by have := H.td c e2; omega)
  have new : ∀ c m, tau c = m + 1 → v'.ownBlock = some c → 3 = m + 1 := fun c m e hc => by
    rcases at_ c hc with h1 | h1
    · have := H.td c h1; omega
    · have := (H.lt c (by omega)).2; omega
  refine ⟨⟨os, ou, hz, fun c hc ht => q c hc (fun e => by have := H.th; rw [← e] at this; omega) (fun e => by have := H.td c e; omega)⟩, tagV tau v' 3, { G with dv := v', ds := G.ds ++ [.slice none 0 0] }, ?_, rfl, rfl, rfl, rfl, fun c hc ht => ?_⟩
  · refine ⟨hh, H.tr.same (fun c hc => ?_), by rw [List.length_append]; exact own, own_same H.or_ (fun c hc => qn c 3 (H.tov c hc) (by decide) (by decide)), fun j c x hc hx => (H.oc j c x hc hx).same (qn c (5 + j) (by rw [H.tp j c hc]; omega) (by omega) (by omega)),
      fun j x l hx hl => ?_, tagV_old H.th (new h 0 H.th), tagV_old H.tg (new _ 1 H.tg), fun c hc => tagV_old (H.ts c hc) (new c 1 (H.ts c hc)), fun c hc => if_pos hc, fun c hc => tagV_old (H.tov c hc) (new c 3 (H.tov c hc)), fun j c hc => ?_, fun c hc => ?_, Nat.le_trans H.hz hz, ⟨H.ok.fl, H.ok.fds, fun j x hx => ?_, fun l hl => ?_⟩⟩
    · rcases hc with rfl | hc
      · exact qn _ 1 H.tg (by decide) (by decide)
      · exact qn c 1 (H.ts c hc) (by decide) (by decide)
    · by_cases hj : j < s.d.length
      · rw [List.getElem?_append_left (by rw [H.len.1]; exact hj)] at hx
        rw [List.getElem?_append_left hj] at hl
        refine (H.by_ j x l hx hl).on fun c hc ht => ⟨?_, ht.imp id (fun e => tagV_old e (new c 4 e))⟩
        rcases ht with ht | ht
        · exact q c hc (fun e => by have := (H.lt h (by rw [H.th]; decide)).1; omega) (fun e => by have := (H.lt c (by rw [H.td c e]; decide)).1; omega)
        · exact qn c 4 ht (by decide) (by decide)
      · rw [List.getElem?_append_right (by rw [H.len.1]; omega), H.len.1] at hx
        rw [List.getElem?_append_right (by omega)] at hl
        have hj0 : j - s.d.length = 0 := by
          have := (List.getElem?_eq_some_iff.1 hl).1
          simp at this; omega
        rw [hj0] at hx hl
        simp at hx hl
        subst hx hl
        exact ⟨none, 0, rfl, Nat.le_refl _, Nat.zero_le _, fun j c hj => by simp at hj⟩
    · have e : tau c = 5 + j + 1 := by rw [H.tp j c hc]; omega
      have := tagV_old (v := v') (n := 3) e (new c _ e)
      omega
    · unfold tagV at hc
      split at hc
      · rename_i e
        exact own_ge own c e
      · have := H.lt c hc
        exact ⟨this.1, Nat.lt_of_lt_of_le this.2 hz⟩
    · have := H.ok.os j x hx
      rw [List.length_append]
      exact ⟨by omega, this.2⟩
    · rcases List.mem_append.1 hl with hl | hl
      · exact H.ok.ds l hl
      · rw [List.mem_singleton.1 hl]; exact Nat.zero_le _
  · unfold tagV at ht
    split at ht
    · rename_i e
      rcases at_ c e with h1 | h1
      · rw [H.td c h1]; decide
      · omega
    · exact ht
/-- A descriptor of a new open file. -/
theorem FR.addo (H : FR bz tau G w h s) {w2 : World} {v' : Value} {n ob : Nat} {x : Nat × Nat} (hx : x.1 < s.d.length ∧ x.2 ≤ 263) (os : w2.os = w.os) (ou : w2.output = w.output) (hz : w.heap.size ≤ w2.heap.size) (hh : Has w2 h 118 (hC G.g G.dv v' (s.fd.set n s.o.length)))
    (own : w2.ownsRow bz 134 1 v' (s.o.length + 1) (G.ps.map ptV ++ [ptV ob])) (hob : Has w2 ob 136 (opC x)) (hnb : w.heap.size ≤ ob) (hne : v'.ownBlock ≠ some ob) (at_ : ∀ b, v'.ownBlock = some b → G.ov.ownBlock = some b ∨ w.heap.size ≤ b)
    (q : ∀ c, c < w.heap.size → c ≠ h → G.ov.ownBlock ≠ some c → w2.heap[c]? = w.heap[c]?) : FTo bz tau w h { s with fd := s.fd.set n s.o.length, o := s.o ++ [x] } w2 := by
  have qn : ∀ c m, tau c = m + 1 → m ≠ 0 → m ≠ 3 → w2.heap[c]? = w.heap[c]? := fun c m e h0 h2 => q c (H.lt c (by omega)).2 (fun e2 => by have := H.th; rw [← e2] at this; omega) (fun e2 => by have := H.tov c e2; omega)
  let tau2 : Nat → Nat := fun b => if b = ob then 6 + s.o.length else tagV tau v' 4 b
  have keep : ∀ c m, tau c = m + 1 → (v'.ownBlock = some c → 4 = m + 1) → tau2 c = m + 1 := fun c m e hv => by
    show (if c = ob then _ else _) = _
    rw [if_neg (fun e2 => by have := (H.lt c (by omega)).2; omega)]
    exact tagV_old e hv
  have new : ∀ c m, tau c = m + 1 → v'.ownBlock = some c → 4 = m + 1 := fun c m e hc => by
    rcases at_ c hc with h1 | h1
    · have := H.tov c h1; omega
    · have := (H.lt c (by omega)).2; omega
  have kn : ∀ c m, tau c = m + 1 → tau2 c = m + 1 := fun c m e => keep c m e (new c m e)
  refine ⟨⟨os, ou, hz, fun c hc ht => q c hc (fun e => by have := H.th; rw [← e] at this; omega) (fun e => by have := H.tov c e; omega)⟩, tau2, { G with ov := v', ps := G.ps ++ [ob] }, ?_, fun c hc ht => ?_⟩
  · refine ⟨hh, H.tr.same (fun c hc => ?_), own_same H.dr (fun c hc => qn c 2 (H.td c hc) (by decide) (by decide)), by rw [List.length_append, List.map_append]; exact own, fun j c y hc hy => ?_, fun j y l hy hl => (H.by_ j y l hy hl).on fun c hc ht => ⟨?_, ht.imp id (fun e => kn c 4 e)⟩,
      kn h 0 H.th, kn _ 1 H.tg, fun c hc => kn c 1 (H.ts c hc), fun c hc => kn c 2 (H.td c hc), fun c hc => ?_, fun j c hc => ?_, fun c hc => ?_, Nat.le_trans H.hz hz, ⟨by simp [H.ok.fl], fun j k hk => ?_, fun j y hy => ?_, H.ok.ds⟩⟩
    · rcases hc with rfl | hc
      · exact qn _ 1 H.tg (by decide) (by decide)
      · exact qn c 1 (H.ts c hc) (by decide) (by decide)
    · by_cases hj : j < s.o.length
      · rw [List.getElem?_append_left (by rw [H.len.2]; exact hj)] at hc
        rw [List.getElem?_append_left hj] at hy
        exact (H.oc j c y hc hy).same (qn c (5 + j) (by rw [H.tp j c hc]; omega) (by omega) (by omega))
      · rw [List.getElem?_append_right (by rw [H.len.2]; omega), H.len.2] at hc
        rw [List.getElem?_append_right (by omega)] at hy
        have hj0 : j - s.o.length = 0 := by
          have := (List.getElem?_eq_some_iff.1 hy).1
          simp at this; omega
        rw [hj0] at hc hy
        simp at hc hy
        subst hc hy
        exact hob
    · rcases ht with ht | ht
      · exact q c hc (fun e => by have := (H.lt h (by rw [H.th]; decide)).1; omega) (fun e => by have := (H.lt c (by rw [H.tov c e]; decide)).1; omega)
      · exact qn c 4 ht (by decide) (by decide)
    · show (if c = ob then _ else _) = _
      rw [if_neg (fun e => hne (by rw [← e]; exact hc))]
      exact if_pos hc
    · by_cases hj : j < s.o.length
      · rw [List.getElem?_append_left (by rw [H.len.2]; exact hj)] at hc
        have := kn c (5 + j) (by rw [H.tp j c hc]; omega)
        omega
      · have hjl := (List.getElem?_eq_some_iff.1 hc).1
        rw [List.length_append, H.len.2] at hjl
        simp at hjl
        have e : j = s.o.length := by omega
        rw [List.getElem?_append_right (by rw [H.len.2]; omega), H.len.2, e, Nat.sub_self] at hc
        simp at hc
        subst hc
        show (if ob = ob then _ else _) = _
        rw [if_pos rfl, e]
    · by_cases e : c = ob
      · subst e; exact ⟨Nat.le_trans H.hz hnb, hob.lt⟩
      · have hc' : tagV tau v' 4 c ≠ 0 := by
          have : (if c = ob then 6 + s.o.length else tagV tau v' 4 c) ≠ 0 := hc
          rwa [if_neg e] at this
        unfold tagV at hc'
        split at hc'
        · rename_i e2
          exact own_ge own c e2
        · have := H.lt c hc'
          exact ⟨this.1, Nat.lt_of_lt_of_le this.2 hz⟩
    · rw [List.getElem?_set] at hk
      rw [List.length_append]
      by_cases e : n = j
      · subst e
        rw [if_pos rfl] at hk
        split at hk
        · cases hk; simp; omega
        · cases hk
      · rw [if_neg e] at hk
        have := H.ok.fds j k hk
        simp; omega
    · by_cases hj : j < s.o.length
      · rw [List.getElem?_append_left hj] at hy
        exact H.ok.os j y hy
      · rw [List.getElem?_append_right (by omega)] at hy
        have hj0 : j - s.o.length = 0 := by
          have := (List.getElem?_eq_some_iff.1 hy).1
          simp at this; omega
        rw [hj0] at hy
        simp at hy
        subst hy
        exact hx
  · have ht' : (if c = ob then 6 + s.o.length else tagV tau v' 4 c) ≠ 0 := ht
    rw [if_neg (by omega)] at ht'
    unfold tagV at ht'
    split at ht'
    · rename_i e
      rcases at_ c e with h1 | h1
      · rw [H.tov c h1]; decide
      · omega
    · exact ht'
end
end Go.Proofs.Ytckoapfmfpmdgaa

namespace Go.Proofs.Ytckoapfmfpmdgaa
open Go.ChangeShapes Go.WideShapes Go.ChangeAt Go.RowKit Go.Joins
set_option linter.unusedVariables false
set_option linter.unusedSimpArgs false

set_option maxRecDepth 100000 in
theorem info_bs : ∃ i0, Try.prog.info? 52 = some i0 ∧ i0.zero = some (.slice none 0 0) ∧ i0.size = 1 ∧ i0.bytes = 24 := ⟨_, rfl, rfl, rfl, rfl⟩
set_option maxRecDepth 100000 in
theorem info_op : ∃ i0, Try.prog.info? 134 = some i0 ∧ i0.zero = some (.pointer none) ∧ i0.size = 1 ∧ i0.bytes = 8 := ⟨_, rfl, rfl, rfl, rfl⟩
/-- How many rows of bytes there are. -/
def dLen (w : World) (h : Nat) : Nat := match w.cell? ⟨h, 1, none⟩ with | some v => sLen v | none => 0
/-- On the way: so far nothing but its own has changed. -/
structure Way (bz : Nat) (tau : Nat → Nat) (w : World) (h : Nat) (s1 : Fs) (w1 : World) : Prop where
  ch : Fc tau w w1
  ex : ∃ tau1 G1, FR bz tau1 G1 w1 h s1 ∧ ∀ k, k < w.heap.size → tau1 k ≠ 0 → tau k ≠ 0
section
variable {bz : Nat} {tau : Nat → Nat} {G : Gd} {w : World} {h : Nat} {s : Fs}
theorem Way.start (H : FR bz tau G w h s) {w1 : World} (K : Gw w w1) : Way bz tau w h s w1 := ⟨⟨K.os, K.output, K.size, fun k hk _ => K.block k hk⟩, tau, G, H.on K, fun _ _ hk => hk⟩
theorem Way.end_ {s1 : Fs} {w1 : World} (W : Way bz tau w h s1 w1) : FTo bz tau w h s1 w1 := ⟨W.ch, W.ex⟩
theorem Way.go {s1 s2 : Fs} {w1 w2 : World} (W : Way bz tau w h s1 w1) (f : ∀ tau1 G1, FR bz tau1 G1 w1 h s1 → FTo bz tau1 w1 h s2 w2) : Way bz tau w h s2 w2 := by
  obtain ⟨tau1, G1, H1, n1⟩ := W.ex
  have := FTo.step W.ch n1 (f tau1 G1 H1)
  exact ⟨this.ch, this.ex⟩
/-- A row of no bytes more. -/
theorem FR.pad (H : FR bz tau G w h s) {w1 w2 : World} {g1 cap : Nat} (K : Gw w w1) (gr : w1.grownBy w2 G.dv.ownBlock) (at_ : G.dv.ownBlock = some g1 ∨ g1 = w1.heap.size)
    (own : w2.ownsRow bz 52 1 (.slice (some ⟨g1, 0, none⟩) (s.d.length + 1) cap) (s.d.length + 1) (G.ds ++ [.slice none 0 0])) :
    FTo bz tau w h { s with d := s.d ++ [[]] } (w2.setCell ⟨h, 1, none⟩ (.slice (some ⟨g1, 0, none⟩) (s.d.length + 1) cap)) := by
  have hh := H.hd
  have hl := hh.lt
  have nh : G.dv.ownBlock ≠ some h := fun e => by have := H.td h e; rw [H.th] at this; cases this
  have ng : g1 ≠ h := fun e => by
    rcases at_ with h1 | h1
    · exact nh (by rw [h1, e])
    · have := K.size; omega
  have h1 : Has w2 h 118 (hC G.g G.dv G.ov s.fd) := hh.same ((gr.block h (Nat.lt_of_lt_of_le hl K.size) (fun e => nh e.symm)).trans (K.block h hl))
  have h2 := h1.put 1 (.slice (some ⟨g1, 0, none⟩) (s.d.length + 1) cap)
  rw [hC_setdv] at h2
  obtain ⟨c, t', G', k, _, _, _, _, n⟩ := H.addd (w2 := w2.setCell ⟨h, 1, none⟩ (.slice (some ⟨g1, 0, none⟩) (s.d.length + 1) cap)) (v' := .slice (some ⟨g1, 0, none⟩) (s.d.length + 1) cap) (gr.os.trans K.os) (gr.output.trans K.output) (by have := K.size; have := gr.size; simp; omega) h2
    (own_same own (fun b hb => set_other (p := ⟨h, 1, none⟩) (fun e => ng (by have : g1 = b := by simpa [Value.ownBlock] using hb
                                                                              rw [this]; exact e))))
    (fun b hb => by
      have e : g1 = b := by simpa [Value.ownBlock] using hb
      rcases at_ with h1 | h1
      · exact .inl (by rw [h1, e])
      · exact .inr (by have := K.size; omega))
    (fun c hc hch hcd => (set_other (p := ⟨h, 1, none⟩) hch).trans ((gr.block c (Nat.lt_of_lt_of_le hc K.size) (fun e => hcd e.symm)).trans (K.block c hc)))
  exact ⟨c, t', G', k, n⟩
end
end Go.Proofs.Ytckoapfmfpmdgaa
