/-
  Parts of the proof, joined: FileD, FileE.
-/
import Derived.Test.YtckoapfmfpmdgaaMp10
import Derived.Laws.CopyOwn
import Derived.Deep.OwnRows
import Derived.Deep.RegionLaw

namespace Go.Proofs.Ytckoapfmfpmdgaa
open Go.ChangeShapes Go.WideShapes Go.ChangeAt Go.RowKit Go.Joins
set_option linter.unusedVariables false
set_option linter.unusedSimpArgs false

/-- Bytes, as cells. -/
def byV (l : List UInt8) : List Value := l.map (fun c => .int .u8 (c.toNat : Int))
theorem byV_len (l : List UInt8) : (byV l).length = l.length := by simp [byV]
theorem byV_at {l : List UInt8} {j : Nat} {c : UInt8} (h : l[j]? = some c) : (byV l)[j]? = some (.int .u8 (c.toNat : Int)) := by simp [byV, h]
theorem byV_of {l : List UInt8} {j : Nat} {v : Value} (h : (byV l)[j]? = some v) : ∃ c, l[j]? = some c ∧ v = .int .u8 (c.toNat : Int) := by
  unfold byV at h
  rw [List.getElem?_map] at h
  cases hc : l[j]? with
  | none => rw [hc] at h; cases h
  | some c => rw [hc] at h; exact ⟨c, rfl, (Option.some.inj h).symm⟩
theorem byV_one (l : List UInt8) : ∀ v ∈ byV l, v.oneCell' = true := by
  intro v hv
  obtain ⟨c, _, rfl⟩ := List.mem_map.1 hv
  rfl
theorem byV_app (a b : List UInt8) : byV (a ++ b) = byV a ++ byV b := by simp [byV]
theorem byV_take (l : List UInt8) (n : Nat) : (byV l).take n = byV (l.take n) := by simp [byV, List.map_take]
theorem byV_drop (l : List UInt8) (n : Nat) : (byV l).drop n = byV (l.drop n) := by simp [byV, List.map_drop]
theorem byV_splice (z x : List UInt8) (k : Nat) : splice (byV z) k (byV x) = byV (splice z k x) := by
  unfold splice
  rw [byV_take, byV_drop, byV_len, byV_app, byV_app]
theorem made_by (n : Nat) : madeCells #[.int .u8 0] n = (byV (List.replicate n 0)).toArray := by
  unfold madeCells byV
  apply Array.ext_getElem?
  intro i
  by_cases h : i < n
  · simp [h, Nat.mod_one]
  · simp [h]
theorem cut_splice (l : List UInt8) (n : Nat) : splice (List.replicate n 0) 0 (l.take n) = cutL l n := by
  unfold splice cutL
  rw [List.take_zero, List.nil_append, Nat.zero_add, List.length_take, List.drop_replicate]
  congr 2
  omega
theorem cut_len (l : List UInt8) (n : Nat) : (cutL l n).length = n := by unfold cutL; simp; omega
section
variable {bz : Nat} {tau : Nat → Nat} {G : Gd} {w : World} {h : Nat} {s : Fs}
/-- What lies where a slice of bytes says. -/
theorem BtAt.src {x : Value} {l : List UInt8} {A : Option Addr} {cap : Nat} (hc : ∀ (j : Nat) c, l[j]? = some c → ∃ b off, A = some ⟨b, off, none⟩ ∧ (b < bz ∨ tau b = 5) ∧ w.cell? ⟨b, off + j, none⟩ = some (.int .u8 (c.toNat : Int))) {n : Nat} (h0 : 0 < (byV (l.take n)).length) :
    ∃ ad, A = some ad ∧ ∀ (j : Nat) v, (byV (l.take n))[j]? = some v → w.cell? (ad.add j) = some v := by
  rw [byV_len, List.length_take] at h0
  obtain ⟨c0, hc0⟩ : ∃ c0, l[0]? = some c0 := ⟨_, List.getElem?_eq_getElem (by omega)⟩
  obtain ⟨b, off, hA, _, _⟩ := hc 0 c0 hc0
  refine ⟨_, hA, fun j v hj => ?_⟩
  obtain ⟨c, hj', rfl⟩ := byV_of hj
  rw [List.getElem?_take] at hj'
  split at hj'
  · obtain ⟨b', off', hA', _, hcell⟩ := hc j c hj'
    rw [hA] at hA'
    cases hA'
    rw [add_eq]
    exact hcell
  · cases hj'
theorem Gw.frz {W W' : World} (K : Gw W W') {g i : Nat} {v : Value} (hc : W.cell? ⟨g, i, none⟩ = some v) : W'.frozen? ⟨g, i, none⟩ = W.frozen? ⟨g, i, none⟩ := World.frozen?_of_block (K.block g (lt_cell hc))
theorem Gw.under {w p w3 : World} (K : Gw w p) (B : Below w.heap.size p w3) : Gw w w3 := ⟨B.os.trans K.os, rfl, B.output.trans K.output, Nat.le_trans K.size B.size, fun k hk => (B.block k hk).trans (K.block k hk)⟩
theorem cut_cells {w3 : World} {nb n : Nat} {Z X : List Value} {t : TypeId} {l : List UInt8} (hg : w3.heap[nb]? = some (.cells (splice Z 0 X).toArray t (0, 0))) (hX : X = byV (l.take n)) (hZ : Z = byV (List.replicate n 0)) : ∀ (j : Nat) c, (cutL l n)[j]? = some c → w3.cell? ⟨nb, j, none⟩ = some (.int .u8 (c.toNat : Int)) := by
  intro j c hj
  rw [hX, hZ, byV_splice, cut_splice] at hg
  rw [cell_of_row w3 nb j _ _ _ hg]
  simpa using byV_at hj
set_option maxRecDepth 100000 in
set_option maxHeartbeats 8000000 in
theorem rtrunc_any (H : FR bz tau G w h s) (fd n : Nat) (hfd : fd ≤ 65535) (hn : n ≤ 65535) : Calls Try.prog 65 #[.pointer (some ⟨h, 0, none⟩), .int .u16 (fd : Int), .int .u16 (n : Int)] w fun e w' => e = .returned (.int .u16 (truncF s fd n).1) ∧ FTo bz tau w h (truncF s fd n).2 w' := by
  have OF := of_file H fd hfd
  have HH := Lib.hid H
  unfold truncF
  cases hi : ofI s fd with
  | none =>
    rw [ofV_no hi] at OF
    clear hi H
    go_enter Try.func65, Try.ntmps65
    go_wp2_with (go_at_call 89; with_reducible refine OF.mono ?_; rintro e w1 ⟨rfl, G1⟩)
    go_ret
    exact ⟨rfl, FTo.of_gw HH.out G1⟩
  | some i =>
    obtain ⟨h4, hil, hk⟩ := ofI_lt H.ok hi
    obtain ⟨b, hb⟩ := H.pt hil
    rw [ofV_at hi hb] at OF
    simp only
    obtain ⟨hf, hd, hd8, _⟩ := get_dat H.ok hil
    obtain ⟨c0, c1, f1⟩ := H.opc hb hil
    obtain ⟨r, cap, x, d0, d1, d2, d3, d4, d5, d6⟩ := H.row hf
    obtain ⟨A, cx, rfl, x1, x2, x3⟩ := H.by_ _ _ _ d3 hd
    have HFN := Lib.hid hf
    have HD6 := Lib.hid d6
    have HX := Lib.hid x3
    obtain ⟨l, hll⟩ : ∃ l, l = datI s i := ⟨_, rfl⟩
    have HLL := Lib.hid hll
    rw [← hll] at x1 d4 HX hd8
    obtain ⟨L, hL⟩ : ∃ L, L = l.length := ⟨_, rfl⟩
    have HL := Lib.hid hL
    rw [← hL] at x1 d4 hd8
    obtain ⟨F, hF⟩ : ∃ F, F = filI s i := ⟨_, rfl⟩
    have HF := Lib.hid hF
    rw [← hF] at c0 d4 d5 hf
    obtain ⟨N, hN⟩ : ∃ N, N = s.d.length := ⟨_, rfl⟩
    have HN := Lib.hid hN
    rw [← hN] at d0 d1 hf
    have HC : ∀ w', Gw w w' → w'.cell? ⟨b, 0, none⟩ = some (.int .i64 (F : Int)) ∧ w'.cell? ⟨h, 1, none⟩ = some (.slice (some ⟨r, 0, none⟩) N cap) ∧ w'.cell? ⟨r, F, none⟩ = some (.slice A L cx) ∧ w'.frozen? ⟨r, F, none⟩ = false :=
      fun w' K => ⟨K.cell c0, K.cell d0, K.cell d4, (K.frz d4).trans d5⟩
    clear hi H c0 c1 f1 d0 d3 d4 d5 d6 x3 hd hk hb hll hL hF hN
    by_cases h8 : 8 < n
    · rw [if_pos h8]
      have e1 : (8 : Int) < (n : Int) := by omega
      clear HC
      go_enter Try.func65, Try.ntmps65
      go_wp2_with (go_at_call 89; with_reducible refine OF.mono ?_; rintro e w1 ⟨rfl, G1⟩)
      go_ret
      exact ⟨rfl, FTo.of_gw HH.out G1⟩
    · rw [if_neg h8]
      have e1 : decide ((8 : Int) < (n : Int)) = false := decide_eq_false (by omega)
      have hmk : ∀ w : World, (Instr.makeSlice 52 (.int .u16 (n : Int)) (.int .u16 (n : Int))).run Try.prog w = .ok (.slice (some ⟨w.heap.size, 0, none⟩) n n) (w.alloc (.cells (madeCells #[.int .u8 0] n) 5)) := fun w => run_make_row' (P := Try.prog) 52 5 (.int .u8 0) 1 Try.underlying52 (by kernel_rfl) rfl .u16 .u16 n (by omega) (by omega) w
      go_enter Try.func65, Try.ntmps65
      go_upto_region 7 with (go_at_call 89; with_reducible refine OF.mono ?_; rintro e w1 ⟨rfl, G1⟩)
      clear OF hmk
      rw [made_by]
      have HW := Lib.hid G1.size
      obtain ⟨X, hX⟩ : ∃ X, X = byV (l.take n) := ⟨_, rfl⟩
      have HXX := Lib.hid hX
      obtain ⟨Z, hZ⟩ : ∃ Z, Z = byV (List.replicate n 0) := ⟨_, rfl⟩
      have HZZ := Lib.hid hZ
      rw [← hZ]
      have HGA := Lib.hid ((G1.trans (Gw.alloc w1 (.cells Z.toArray 5))).trans (Gw.refl _).drew)
      have HNB := Lib.hid (heap_alloc_new w1 (.cells Z.toArray 5))
      clear hX hZ
      obtain ⟨c0, d0, d4, d5⟩ := HC _ HGA.out
      have HXA : Hid (∀ (j : Nat) c, l[j]? = some c → ∃ b off, A = some ⟨b, off, none⟩ ∧ (b < bz ∨ tau b = 5) ∧ (w1.alloc (.cells Z.toArray 5)).drew.cell? ⟨b, off + j, none⟩ = some (.int .u8 (c.toNat : Int))) := fun j c hj => by
        obtain ⟨q, off, k1, k2, k3⟩ := HX.out j c hj
        exact ⟨q, off, k1, k2, HGA.out.cell k3⟩
      go_region_law (refine step_copy_splice (by rfl) _ _ _ _ (by rfl) 5 Try.underlying52 (by kernel_rfl) (some ⟨w1.heap.size, 0, none⟩) A n n L cx (by rfl) (by rfl) w1.heap.size 0 Z 5 HNB.out X (by rw [HXX.out, byV_len, List.length_take, HL.out]; exact Nat.min_comm _ _) (fun h0 => ⟨rfl, by rw [HXX.out] at h0 ⊢; exact BtAt.src (x := .nilIface) (cap := 0) HXA.out h0⟩) (by rw [HXX.out, HZZ.out, byV_len, byV_len]; simp; omega) (by rw [HXX.out]; exact byV_one _) w.heap.size _ (Below.refl _ _) HW.out ?_; intro w3 hg3 hb3)
      all_goals (
        have G3 := Lib.hid (Gw.under HGA.out hb3)
        have HP := Lib.hid (HH.out.setd (G3.out.trans (Gw.refl w3).drew) HFN.out HD6.out (l := cutL l n) (by rw [cut_len]; omega) HW.out (show w1.heap.size < w3.heap.size from lt_of_heap hg3.out) (by rw [cut_len]; exact Nat.le_refl n) (by omega) (cut_cells hg3.out HXX.out HZZ.out))
        rw [cut_len, ← HF.out] at HP
        clear c0 d0 d4 d5
        obtain ⟨c0, d0, d4, d5⟩ := HC _ (G3.out.trans (Gw.refl w3).drew)
        clear hb3 hg3
        go_upto_region 8 with fail
        go_region
        go_wp2
        go_ret
        exact ⟨rfl, by rw [← HLL.out, ← HF.out]; exact HP.out⟩)
end
end Go.Proofs.Ytckoapfmfpmdgaa

namespace Go.Proofs.Ytckoapfmfpmdgaa
open Go.ChangeShapes Go.WideShapes Go.ChangeAt Go.RowKit Go.Joins
set_option linter.unusedVariables false
set_option linter.unusedSimpArgs false

set_option maxRecDepth 100000 in
theorem info_u8 : ∃ i0, Try.prog.info? 5 = some i0 ∧ i0.zero = some (.int .u8 0) ∧ i0.size = 1 ∧ i0.bytes = 1 := ⟨_, rfl, rfl, rfl, rfl⟩
/-- A slice of bytes in new memory. -/
def BtN (base : Nat) (w : World) (x : Value) (l : List UInt8) : Prop := ∃ A cap, x = .slice A l.length cap ∧ l.length ≤ cap ∧ cap ≤ 9223372036854775807 ∧
  ∀ (j : Nat) c, l[j]? = some c → ∃ b off, A = some ⟨b, off, none⟩ ∧ base ≤ b ∧ w.cell? ⟨b, off + j, none⟩ = some (.int .u8 (c.toNat : Int))
theorem BtN.nil (base : Nat) (w : World) : BtN base w (.slice none 0 0) [] := ⟨none, 0, rfl, Nat.le_refl _, Nat.zero_le _, fun j c h => (by simp at h)⟩
theorem BtN.row {base n : Nat} {w w' : World} {x : Value} {l : List UInt8} (H : w.ownsRow base 5 1 x n (byV l)) (hn : n = l.length) (k : ∀ b, x.ownBlock = some b → w'.heap[b]? = w.heap[b]?) : BtN base w' x l := by
  subst hn
  rcases H.2 with ⟨h0, h1⟩ | ⟨g, cap, cur, h0, h1, h2, h3, h4, h5, h6⟩
  · have : l = [] := List.eq_nil_of_length_eq_zero h1
    subst this
    rw [h0]; exact BtN.nil _ _
  · refine ⟨_, cap, h0, h3, h4, fun j c hj => ⟨g, 0, rfl, h1, ?_⟩⟩
    have hb := byV_at hj
    rw [← h6, List.getElem?_take] at hb
    rw [Nat.zero_add, World.cell?_of_block (a := ⟨g, j, none⟩) (k g (by rw [h0]; rfl)), cell_of_row w g j cur _ _ h2]
    split at hb
    · simpa using hb
    · cases hb
section
variable {bz : Nat} {tau : Nat → Nat} {G : Gd} {w : World} {h : Nat} {s : Fs}
set_option maxRecDepth 100000 in
set_option maxHeartbeats 8000000 in
theorem rread_any (H : FR bz tau G w h s) (fd n : Nat) (hfd : fd ≤ 65535) (hn : n ≤ 65535) : Calls Try.prog 61 #[.pointer (some ⟨h, 0, none⟩), .int .u16 (fd : Int), .int .u16 (n : Int)] w fun e w' => ∃ x, e = .returned (.tuple #[x, .int .u16 (readF s fd n).1.2]) ∧ BtN w.heap.size w' x (readF s fd n).1.1 ∧ FTo bz tau w h (readF s fd n).2 w' := by
  have OF := of_file H fd hfd
  have HH := Lib.hid H
  unfold readF
  cases hi : ofI s fd with
  | none =>
    rw [ofV_no hi] at OF
    clear hi H
    go_enter Try.func61, Try.ntmps61
    go_wp2_with (go_at_call 89; with_reducible refine OF.mono ?_; rintro e w1 ⟨rfl, G1⟩)
    go_ret2
    exact ⟨_, rfl, BtN.nil _ _, FTo.of_gw HH.out G1⟩
  | some i =>
    obtain ⟨h4, hil, hk⟩ := ofI_lt H.ok hi
    obtain ⟨b, hb⟩ := H.pt hil
    rw [ofV_at hi hb] at OF
    simp only
    obtain ⟨hf, hd, hd8, hat⟩ := get_dat H.ok hil
    obtain ⟨c0, c1, f1⟩ := H.opc hb hil
    obtain ⟨r, cap, x, d0, d1, d2, d3, d4, d5, d6⟩ := H.row hf
    obtain ⟨A, cx, rfl, x1, x2, x3⟩ := H.by_ _ _ _ d3 hd
    have HPB := Lib.hid hb
    have HIL := Lib.hid hil
    have HBL := Lib.hid (lt_cell c0)
    have HX := Lib.hid x3
    unfold manyR
    obtain ⟨l, hll⟩ : ∃ l, l = datI s i := ⟨_, rfl⟩
    rw [← hll] at x1 d4 HX hd8 ⊢
    obtain ⟨L, hL⟩ : ∃ L, L = l.length := ⟨_, rfl⟩
    have HL := Lib.hid hL
    rw [← hL] at x1 d4 hd8 ⊢
    obtain ⟨F, hF⟩ : ∃ F, F = filI s i := ⟨_, rfl⟩
    have HF := Lib.hid hF
    rw [← hF] at c0 d4 d5 hf ⊢
    obtain ⟨at_, hat_⟩ : ∃ at_, at_ = offI s i := ⟨_, rfl⟩
    rw [← hat_] at c1 hat ⊢
    obtain ⟨N, hN⟩ : ∃ N, N = s.d.length := ⟨_, rfl⟩
    rw [← hN] at d0 d1 hf
    have HC : ∀ w', Gw w w' → w'.cell? ⟨b, 0, none⟩ = some (.int .i64 (F : Int)) ∧ w'.cell? ⟨b, 1, none⟩ = some (.int .i64 (at_ : Int)) ∧ w'.frozen? ⟨b, 1, none⟩ = false ∧ w'.cell? ⟨h, 1, none⟩ = some (.slice (some ⟨r, 0, none⟩) N cap) ∧ w'.cell? ⟨r, F, none⟩ = some (.slice A L cx) :=
      fun w' K => ⟨K.cell c0, K.cell c1, (K.frz c1).trans f1, K.cell d0, K.cell d4⟩
    clear hi H c0 c1 f1 d0 d3 d4 d5 d6 x3 hd hk hb hll hL hF hN hat_ hil
    have hm : max (0 : Int) ((L : Int) - (at_ : Int)) = ((L - at_ : Nat) : Int) := by rw [Int.max_def]; split <;> omega
    obtain ⟨k, hk⟩ : ∃ k, k = min n (L - at_) := ⟨_, rfl⟩
    have hmin : min (n : Int) ((L - at_ : Nat) : Int) = (k : Int) := by rw [hk, Int.min_def]; split <;> omega
    have hkn : k ≤ n ∧ k ≤ L - at_ := by omega
    have hk8 : k ≤ 8 := by omega
    rw [← hk]
    obtain ⟨M, hM⟩ : ∃ M, M = L - at_ := ⟨_, rfl⟩
    rw [← hM] at hm hmin hkn
    have HM := Lib.hid hM
    clear hk hM
    have w1' : IntKind.i64.wrap ((L : Int) - (at_ : Int)) = (L : Int) - (at_ : Int) := wrap_in (by omega) (by omega)
    by_cases h0 : k = 0
    · subst h0
      rw [if_pos rfl]
      go_enter Try.func61, Try.ntmps61
      go_upto_region 4 with (go_at_call 89; with_reducible refine OF.mono ?_; rintro e w1 ⟨rfl, G1⟩)
      obtain ⟨c0, c1, f1, d0, d4⟩ := HC _ G1
      clear OF
      go_quiet (fail)
      have G2 := Lib.hid (G1.trans ((Gw.refl w1).drewM nq))
      clear c0 c1 f1 d0 d4
      obtain ⟨c0, c1, f1, d0, d4⟩ := HC _ G2.out
      go_upto_region 6 with fail
      go_wp2
      go_ret2
      exact ⟨_, rfl, BtN.nil _ _, FTo.of_gw HH.out G2.out⟩
    rw [if_neg h0]
    have e0 : ((k : Int) == 0) = false := by simp; omega
    have hML := HM.out
    have hLat : at_ + k ≤ L := by omega
    have hLx : ¬ cx = at_ := by omega
    have b1 : (0 : Int) ≤ (at_ : Int) := by omega
    have b2 : (at_ : Int) ≤ (at_ : Int) + (k : Int) := by omega
    have b3 : (at_ : Int) + (k : Int) ≤ (cx : Int) := by omega
    have hlen : ((at_ : Int) + (k : Int)).toNat - at_ = k := by omega
    have b4 : IntKind.i64.wrap ((at_ : Int) + (k : Int)) = (at_ : Int) + (k : Int) := wrap_in (by omega) (by omega)
    obtain ⟨bA, off, rfl, HXC⟩ : ∃ bA off, A = some ⟨bA, off, none⟩ ∧ ∀ (j : Nat) c, l[j]? = some c → w.cell? ⟨bA, off + j, none⟩ = some (.int .u8 (c.toNat : Int)) := by
      obtain ⟨c0, hc0⟩ : ∃ c0, l[0]? = some c0 := ⟨_, List.getElem?_eq_getElem (by have := HL.out; omega)⟩
      obtain ⟨b', o', hA, _, _⟩ := HX.out 0 c0 hc0
      refine ⟨b', o', hA, fun j c hj => ?_⟩
      obtain ⟨b'', o'', hA', _, hc⟩ := HX.out j c hj
      rw [hA] at hA'
      cases hA'
      exact hc
    obtain ⟨i0, hi1, hi2, hi3, hi4⟩ := info_u8
    have HI := Lib.hid (And.intro hi1 (And.intro hi2 (And.intro hi3 hi4)))
    obtain ⟨X, hX⟩ : ∃ X, X = (l.drop at_).take k := ⟨_, rfl⟩
    rw [← hX]
    have HXL : Hid (X.length = k) := by show _ = _; rw [hX, List.length_take, List.length_drop, ← HL.out]; omega
    have HXX := Lib.hid hX
    have HXC := Lib.hid HXC
    clear hX HX hi1 hi2 hi3 hi4 hML h0
    go_enter Try.func61, Try.ntmps61
    go_upto_region 4 with (go_at_call 89; with_reducible refine OF.mono ?_; rintro e w1 ⟨rfl, G1⟩)
    obtain ⟨c0, c1, f1, d0, d4⟩ := HC _ G1
    clear OF
    go_quiet (fail)
    have G2 := Lib.hid (G1.trans ((Gw.refl w1).drewM nq))
    clear c0 c1 f1 d0 d4
    obtain ⟨c0, c1, f1, d0, d4⟩ := HC _ G2.out
    go_upto_region 6 with fail
    have G3 := Lib.hid (G2.out.trans (Gw.refl (w1.drewN nq)).drew)
    have N1 : Hid (∀ (j : Nat) u, (byV X)[j]? = some u → (w1.drewN nq).drew.cell? ((⟨bA, off + at_, none⟩ : Addr).add j) = some u) := fun j u hj => by
      obtain ⟨c, hc, rfl⟩ := byV_of hj
      rw [HXX.out, List.getElem?_take] at hc
      split at hc
      · rw [List.getElem?_drop] at hc
        rw [add_eq, Nat.add_assoc]
        exact G3.out.cell (HXC.out _ _ hc)
      · cases hc
    have HZ := Lib.hid (FR.hz (HH.out.on G3.out))
    have hm8 : Hid (maxLen = 9223372036854775807) := rfl
    clear c0 c1 f1 d0 d4
    obtain ⟨c0, c1, f1, d0, d4⟩ := HC _ G3.out
    go_upto_region 8 with fail
    go_region_law (refine step_append_own _ (by rfl) _ _ _ (by rfl) w.heap.size 5 i0 _ 1 1 Try.underlying52 HI.out.1 HI.out.2.1 HI.out.2.2.1 HI.out.2.2.2 rfl (by omega) (.slice none 0 0) 0 [] (by rfl) (World.ownsRow_nil _ _ _ 1) ⟨bA, off + at_, none⟩ k _ (byV X) (by rfl) (by rw [byV_len, HXL.out]; omega) N1.out (byV_one _) (by have := hm8.out; omega) (by omega) G3.out.size ?_; intro v1 p1 own1 gr1 at1)
    all_goals (
      have G4 := Lib.hid (G3.out.grown gr1 (fun _ e => by cases e))
      have HP := FTo.gw G4.out ((HH.out.on G4.out).setat HPB.out HIL.out (a := at_ + k) (by omega))
      rw [Int.natCast_add, ← HF.out] at HP
      have HP := Lib.hid HP
      have HB := Lib.hid (BtN.row (w' := p1.setCell ⟨b, 1, none⟩ (.int .i64 ((at_ : Int) + (k : Int)))) (l := X) own1 (by rw [HXL.out]; omega) (fun q hq => set_other (p := ⟨b, 1, none⟩) (fun e => by
        have h1 := HBL.out
        have e' : q = b := e
        rcases own1.2 with ⟨h0, _⟩ | ⟨g', cap', cur, h0, h2, _⟩
        · rw [h0] at hq; cases hq
        · rw [h0] at hq; cases hq; subst e'; exact Nat.lt_irrefl _ (Nat.lt_of_lt_of_le h1 h2))))
      clear own1 gr1 at1 c0 c1 f1 d0 d4
      obtain ⟨c0, c1, f1, d0, d4⟩ := HC _ G4.out
      go_wp2
      go_ret2
      exact ⟨_, rfl, HB.out, HP.out⟩)
end
end Go.Proofs.Ytckoapfmfpmdgaa
