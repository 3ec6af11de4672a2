/-
  behind, fit, highest of package check: heights as bits.
-/
import Derived.Test.YthjbjbbbbdhcmaaCheckI
import Derived.Test.YthjbjbbbbdhcmaaCheckJ
namespace Go.Proofs.Ythjbjbbbbdhcmaa
open Go.ChangeShapes Go.WideShapes Go.ChangeAt Go.RowKit Go.Joins
set_option linter.unusedVariables false

theorem three_cells {w : World} {g : Nat} {a b c : Value} {t : TypeId} (h : w.heap[g]? = some (.cells #[a, b, c] t (0, 0))) :
    w.cell? ⟨g, 0, none⟩ = some a ∧ w.cell? ⟨g, 1, none⟩ = some b ∧ w.cell? ⟨g, 2, none⟩ = some c := by
  simp [World.cell?, h]
set_option maxHeartbeats 4000000 in
theorem behind_any (m t g : Nat) (v : Value) (W : World) (hm : m < 131072) (ht : t ≤ 3) (hg : g ≤ 2) :
    Calls Try.prog 35 #[.int .u32 (m : Int), .agg #[.int .i64 (t : Int), .int .i64 (g : Int), v]] W fun e W' => e = .returned (.int .u32 (bh m t g : Nat)) ∧ Gw W W' := by
  obtain ⟨c0, c1, c2⟩ := three_cells (heap_alloc_new W (.cells #[.int .i64 (t : Int), .int .i64 (g : Int), v] 66))
  have HG := Lib.hid (Gw.alloc W (.cells #[.int .i64 (t : Int), .int .i64 (g : Int), v] 66))
  have t0 : ¬ (t : Int) < 0 := by omega
  have g0 : ¬ (g : Int) < 0 := by omega
  go_enter Try.func35, Try.ntmps35
  go_wp2_with fail
  go_region
  go_wp2
  go_ret
  refine ⟨?_, HG.out.drew⟩
  have h1 : (m : Int) / 2 ^ t * 2 ^ g = ((m / 2 ^ t * 2 ^ g : Nat) : Int) := by push_cast; rfl
  have h2 : m / 2 ^ t * 2 ^ g < 4294967296 := by
    have q1 : m / 2 ^ t ≤ m := Nat.div_le_self _ _
    have q2 : 2 ^ g ≤ 2 ^ 2 := Nat.pow_le_pow_right (by decide) hg
    have q3 : m / 2 ^ t * 2 ^ g ≤ m * 2 ^ 2 := Nat.mul_le_mul q1 q2
    omega
  have h3 : (m : Int) / 2 ^ t * 2 ^ g % 4294967296 = ((m / 2 ^ t * 2 ^ g : Nat) : Int) := by rw [h1]; omega
  have h4 : bits .and .u32 ((m / 2 ^ t * 2 ^ g : Nat) : Int) 131071 = ((m / 2 ^ t * 2 ^ g : Nat) : Int) % 131072 := bits_mask .u32 32 (by decide) (fun n h0 h1 => by rw [IntKind.wrap_u32']; omega) 17 (by decide) _ (by omega) (by omega)
  have h5 : bits .and .u32 ((m : Int) / 2 ^ t * 2 ^ g % 4294967296) 131071 = (bh m t g : Nat) := by rw [h3, h4]; unfold bh; omega
  show Ending.returned (Value.int .u32 (bits .and .u32 ((m : Int) / 2 ^ t * 2 ^ g % 4294967296) 131071)) = _
  rw [h5]
/-- How many bits a byte has. -/
def pn (y : Nat) : Nat := (Lib.pop8tab.data[y]?.getD 0).toNat
theorem pop_size : Lib.pop8tab.size = 256 := by decide +kernel
theorem pn_all : ∀ y : Fin 256, pn y.val ≤ 8 ∧ (pn y.val = 0 ↔ y.val = 0) ∧ (pn y.val = 1 → ∃ j : Fin 8, y.val = 2 ^ j.val) := by decide +kernel
theorem pn_pow : ∀ k : Fin 17, pn (2 ^ k.val / 65536) + pn (2 ^ k.val / 256 % 256) + pn (2 ^ k.val % 256) = 1 := by decide +kernel
theorem pn_zero : pn 0 = 0 := by decide +kernel
theorem pn_at {y : Nat} (h : y < Lib.pop8tab.size) : (Lib.pop8tab[y]'h).toNat = pn y := by
  unfold pn
  have h' : y < Lib.pop8tab.data.size := h
  rw [Array.getElem?_eq_getElem h']
  rfl
theorem pn_one {x : Nat} (hx : x < 131072) : pn (x / 65536) + pn (x / 256 % 256) + pn (x % 256) = 1 ↔ single x = true := by
  unfold single
  rw [decide_eq_true_eq]
  constructor
  · intro h
    obtain ⟨_, a2, a3⟩ := pn_all ⟨x / 65536, by omega⟩
    obtain ⟨_, b2, b3⟩ := pn_all ⟨x / 256 % 256, by omega⟩
    obtain ⟨_, c2, c3⟩ := pn_all ⟨x % 256, by omega⟩
    simp only at a2 a3 b2 b3 c2 c3
    rcases (show (pn (x / 65536) = 1 ∧ pn (x / 256 % 256) = 0 ∧ pn (x % 256) = 0) ∨ (pn (x / 65536) = 0 ∧ pn (x / 256 % 256) = 1 ∧ pn (x % 256) = 0) ∨ (pn (x / 65536) = 0 ∧ pn (x / 256 % 256) = 0 ∧ pn (x % 256) = 1) by omega) with ⟨h1, h2, h3⟩ | ⟨h1, h2, h3⟩ | ⟨h1, h2, h3⟩
    · have k2 := b2.1 h2
      have k3 := c2.1 h3
      refine ⟨16, by decide, ?_⟩
      have : (2 : Nat) ^ 16 = 65536 := rfl
      have k0 : x / 65536 ≠ 0 := fun e => by rw [a2.2 e] at h1; cases h1
      omega
    · have k1 := a2.1 h1
      have k3 := c2.1 h3
      obtain ⟨j, hj⟩ := b3 h2
      refine ⟨j.val + 8, by omega, ?_⟩
      rw [Nat.pow_add]
      have : (2 : Nat) ^ 8 = 256 := rfl
      omega
    · have k1 := a2.1 h1
      have k2 := b2.1 h2
      obtain ⟨j, hj⟩ := c3 h3
      refine ⟨j.val, by omega, ?_⟩
      omega
  · rintro ⟨k, hk, rfl⟩
    exact pn_pow ⟨k, hk⟩
set_option maxRecDepth 100000 in
/-- How many bits there are: one just where there is one height. -/
theorem ones_any (x : Nat) (w : World) (hx : x < 131072) : Calls Try.prog 36 #[.int .u32 (x : Int)] w fun e w' => ∃ z : Int, e = .returned (.int .i64 z) ∧ (z == 1) = single x ∧ Gw w w' := by
  obtain ⟨y3, e3⟩ : ∃ y, (x : Int) / 16777216 = y := ⟨_, rfl⟩
  obtain ⟨y2, e2⟩ : ∃ y, bits .and .u32 ((x : Int) / 65536) 255 = y := ⟨_, rfl⟩
  obtain ⟨y1, e1⟩ : ∃ y, bits .and .u32 ((x : Int) / 256) 255 = y := ⟨_, rfl⟩
  obtain ⟨y0, e0⟩ : ∃ y, bits .and .u32 (x : Int) 255 = y := ⟨_, rfl⟩
  have h2 : bits .and .u32 ((x : Int) / 65536) 255 = (x : Int) / 65536 % 256 := bits_mask .u32 32 (by decide) (fun n h0 h1 => by rw [IntKind.wrap_u32']; omega) 8 (by decide) _ (by omega) (by omega)
  have h1 : bits .and .u32 ((x : Int) / 256) 255 = (x : Int) / 256 % 256 := bits_mask .u32 32 (by decide) (fun n h0 h1 => by rw [IntKind.wrap_u32']; omega) 8 (by decide) _ (by omega) (by omega)
  have h0 : bits .and .u32 (x : Int) 255 = (x : Int) % 256 := bits_mask .u32 32 (by decide) (fun n h0 h1 => by rw [IntKind.wrap_u32']; omega) 8 (by decide) _ (by omega) (by omega)
  have n3 : y3.toNat = 0 := by omega
  have n2 : y2.toNat = x / 65536 := by omega
  have n1 : y1.toNat = x / 256 % 256 := by omega
  have n0 : y0.toNat = x % 256 := by omega
  have HN := Lib.hid (show _ ∧ _ ∧ _ ∧ _ from ⟨n3, n2, n1, n0⟩)
  have HX := Lib.hid hx
  have b3 : 0 ≤ y3 ∧ y3 < 256 := by omega
  have b2 : 0 ≤ y2 ∧ y2 < 256 := by omega
  have b1 : 0 ≤ y1 ∧ y1 < 256 := by omega
  have b0 : 0 ≤ y0 ∧ y0 < 256 := by omega
  clear h2 h1 h0 hx n3 n2 n1 n0
  have hs := pop_size
  go_enter Try.func36, Try.ntmps36
  go_wp2_with fail
  go_region
  go_wp2_with fail
  go_ret
  have p3 := pn_at (y := y3.toNat) (by omega)
  have p2 := pn_at (y := y2.toNat) (by omega)
  have p1 := pn_at (y := y1.toNat) (by omega)
  have p0 := pn_at (y := y0.toNat) (by omega)
  generalize (Lib.pop8tab[y3.toNat]'_).toNat = a3 at *
  generalize (Lib.pop8tab[y2.toNat]'_).toNat = a2 at *
  generalize (Lib.pop8tab[y1.toNat]'_).toNat = a1 at *
  generalize (Lib.pop8tab[y0.toNat]'_).toNat = a0 at *
  obtain ⟨n3, n2, n1, n0⟩ := HN.out
  have hx := HX.out
  rw [n3, pn_zero] at p3
  rw [n2] at p2
  rw [n1] at p1
  rw [n0] at p0
  have q2 := (pn_all ⟨x / 65536, by omega⟩).1
  have q1 := (pn_all ⟨x / 256 % 256, by omega⟩).1
  have q0 := (pn_all ⟨x % 256, by omega⟩).1
  simp only at q2 q1 q0
  refine ⟨((a3 : Int) + a2 + a1 + a0) % 256, rfl, ?_, Gw.drew (Gw.refl _)⟩
  rw [Bool.eq_iff_iff, ← pn_one hx]
  rw [beq_iff_eq]
  omega
set_option maxHeartbeats 4000000 in
theorem fit_any (m t g : Nat) (v : Value) (W : World) (hm : m < 131072) (ht : t ≤ 3) (hg : g ≤ 2) :
    Calls Try.prog 25 #[.int .u32 (m : Int), .agg #[.int .i64 (t : Int), .int .i64 (g : Int), v]] W fun e W' => e = .returned (.bool (fitB m t g)) ∧ Gw W W' := by
  have HB := Has.new W 66 #[.int .i64 (t : Int), .int .i64 (g : Int), v]
  obtain ⟨c0, c1, c2⟩ := three_cells (heap_alloc_new W (.cells #[.int .i64 (t : Int), .int .i64 (g : Int), v] 66))
  have HG := Lib.hid (Gw.alloc W (.cells #[.int .i64 (t : Int), .int .i64 (g : Int), v] 66))
  have BE := fun w => behind_any m t g v w hm ht hg
  have ON := fun w => ones_any m w hm
  have HX := Lib.hid (show fitB m t g = (decide (m = 0) || (single m && decide (bh m t g ≠ 0))) from rfl)
  clear hm ht hg
  by_cases h0 : m = 0
  · have k0 : ((m : Int) == 0) = true := by simp [h0]
    rw [decide_eq_true h0, Bool.true_or] at HX
    clear h0
    go_enter Try.func25, Try.ntmps25
    go_wp2
    go_ret
    exact ⟨by rw [HX.out]; rfl, HG.out⟩
  · have k0 : ((m : Int) == 0) = false := by simp [h0]
    rw [decide_eq_false h0, Bool.false_or] at HX
    clear h0
    cases hs : single m with
    | false =>
      rw [hs] at ON HX
      go_enter Try.func25, Try.ntmps25
      go_wp2_with (go_at_call 36; with_reducible refine (ON _).mono ?_; rintro e w' ⟨z, rfl, hz, G1⟩)
      go_ret
      exact ⟨by rw [HX.out]; rfl, HG.out.trans G1⟩
    | true =>
      rw [hs] at ON HX
      by_cases hb : bh m t g = 0
      · have kb : (((bh m t g : Nat) : Int) != 0) = false := by simp [hb]
        have kb' : (((bh m t g : Nat) : Int) == 0) = true := by simp [hb]
        rw [Bool.true_and, decide_eq_false (fun k => k hb)] at HX
        clear hb
        go_enter Try.func25, Try.ntmps25
        go_wp2_with (first | (go_at_call 36; with_reducible refine (ON _).mono ?_; rintro e w' ⟨z, rfl, hz, G1⟩; have HC := HB.on G1; have e0 := HC.cell 0; have e1 := HC.cell 1; have e2 := HC.cell 2) | (go_at_call 35; with_reducible refine (BE _).mono ?_; rintro e w' ⟨rfl, G2⟩))
        go_ret
        exact ⟨by rw [HX.out]; rfl, HG.out.trans (G1.trans G2)⟩
      · have kb : (((bh m t g : Nat) : Int) != 0) = true := by simp [hb]
        have kb' : (((bh m t g : Nat) : Int) == 0) = false := by simp [hb]
        rw [Bool.true_and, decide_eq_true hb] at HX
        clear hb
        go_enter Try.func25, Try.ntmps25
        go_wp2_with (first | (go_at_call 36; with_reducible refine (ON _).mono ?_; rintro e w' ⟨z, rfl, hz, G1⟩; have HC := HB.on G1; have e0 := HC.cell 0; have e1 := HC.cell 1; have e2 := HC.cell 2) | (go_at_call 35; with_reducible refine (BE _).mono ?_; rintro e w' ⟨rfl, G2⟩))
        go_ret
        exact ⟨by rw [HX.out]; rfl, HG.out.trans (G1.trans G2)⟩
theorem highest_any (m : Nat) (W : World) (hm : m < 131072) : Calls Try.prog 20 #[.int .u32 (m : Int)] W fun e W' => e = .returned (.int .i64 (wrap64 ((Lib.bitLen m : Nat) - 1))) ∧ W' = W := by
  have F := fun w => Try.bits_Len32 (m : Int) w (by omega) (by omega)
  rw [Int.toNat_natCast] at F
  generalize Lib.bitLen m = b at *
  go_enter Try.func20, Try.ntmps20
  go_wp2_with (go_at_call 26; with_reducible refine (F _).mono ?_; rintro e w' ⟨rfl, rfl⟩)
  go_ret
  exact ⟨rfl, rfl⟩
end Go.Proofs.Ythjbjbbbbdhcmaa
