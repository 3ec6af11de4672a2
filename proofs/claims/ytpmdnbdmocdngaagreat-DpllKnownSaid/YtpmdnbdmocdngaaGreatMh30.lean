/-
  Parts of the proof, joined: DpllT2, DpllFa, DpllFb, DpllFc, DpllFd.
-/
import Derived.Test.YtpmdnbdmocdngaaGreatMh11
import Derived.Deep.OwnRows
import Derived.StillTailTactics

namespace Go.Proofs.YtpmdnbdmocdngaaGreat
open Go.ChangeShapes Go.WideShapes Go.ChangeAt Go.RowKit
set_option linter.unusedVariables false
set_option linter.unusedSimpArgs false

/-! ### A block that is known -/
def HasB (w : World) (g : Nat) (t : TypeId) (cs : Array Value) : Prop := w.heap[g]? = some (.cells cs t (0, 0))
section
variable {w w' : World} {g : Nat} {t : TypeId} {cs : Array Value}
theorem HasB.cell (h : HasB w g t cs) (i : Nat) : w.cell? ⟨g, i, none⟩ = cs[i]? := by unfold World.cell?; rw [show w.heap[g]? = _ from h]; rfl
theorem HasB.free (h : HasB w g t cs) (i : Nat) : w.frozen? ⟨g, i, none⟩ = false := by unfold World.frozen?; rw [show w.heap[g]? = _ from h]; simp
theorem HasB.put (h : HasB w g t cs) (i : Nat) (u : Value) : HasB (w.setCell ⟨g, i, none⟩ u) g t (cs.setIfInBounds i u) := by
  unfold HasB at *
  simp only [World.setCell, Array.getElem?_modify, h, if_true]
  simp
end
/-- The truths of the first k numbers. -/
def trArr (wo : List Int) (n k : Nat) : Array Value := ⟨(List.range n).map fun v => .bool (decide (v < k) && decide (wo[2 * v]? = some 1))⟩
theorem trArr_get {wo : List Int} {n k v : Nat} (h : v < n) : (trArr wo n k)[v]? = some (.bool (decide (v < k) && decide (wo[2 * v]? = some 1))) := by simp [trArr, h]
theorem trArr_nil (wo : List Int) (n : Nat) : trArr wo n 0 = madeCells #[Value.bool false] n := by
  apply Array.ext'
  rw [toList_madeCells_one]
  unfold trArr
  apply List.ext_getElem?
  intro i
  by_cases h : i < n <;> simp [h]
theorem trArr_put {wo : List Int} {n k : Nat} (hk : k < n) : (trArr wo n k).setIfInBounds k (.bool (decide (wo[2 * k]? = some 1))) = trArr wo n (k + 1) := by
  apply Array.ext'
  rw [Array.toList_setIfInBounds]
  apply List.ext_getElem?
  intro i
  by_cases e : k = i
  · subst e; rw [List.getElem?_set_self (by simp [trArr]; omega)]; simp [trArr, hk]
  · rw [List.getElem?_set_ne e]
    by_cases hi : i < n
    · simp only [trArr, List.getElem?_map, List.getElem?_range hi, Option.map_some]
      have : (decide (i < k) : Bool) = decide (i < k + 1) := by rw [decide_eq_decide]; omega
      rw [this]
    · simp [trArr, hi]
structure TrRel (w wr : World) (wo : List Int) (n k : Nat) : Prop where
  has : HasB wr w.heap.size 4 (trArr wo n k)
  below : Below w.heap.size w wr
theorem TrRel.put {w wr : World} {wo : List Int} {n k : Nat} (h : TrRel w wr wo n k) (hk : k < n) {x : Bool} (hx : x = decide (wo[2 * k]? = some 1)) : TrRel w (wr.setCell ⟨w.heap.size, k, none⟩ (.bool x)) wo n (k + 1) :=
  ⟨by subst hx; have := h.has.put k (.bool (decide (wo[2 * k]? = some 1))); rwa [trArr_put hk] at this, h.below.setCell (Nat.le_refl _) _⟩
def TrPost (w : World) (wo : List Int) (n : Nat) (e : Ending) (w' : World) : Prop := e = .returned (.slice (some ⟨w.heap.size, 0, none⟩) n n) ∧ TrRel w w' wo n n
section
variable {B : Nat} {τ : Nat → Nat} {w : World} {p n : Nat} {d : Sd}
set_option maxHeartbeats 1600000 in
theorem truths_any (h : Sr B τ w p n d) (L : Len n d) : Calls Tryz.prog 33 #[ptr p] w (TrPost w d.wo n) := by
  have hn := L.nb
  have hwl := L.wo
  have HA := Lib.hid (show ∀ q, q < 2 * n → ∃ g c y, d.wo[q]? = some y ∧ w.cell? ⟨p, 2, none⟩ = some (.slice (some ⟨g, 0, none⟩) (2 * n) c) ∧ 2 * n ≤ c ∧ c ≤ 9223372036854775807 ∧ w.cell? ⟨g, q, none⟩ = some (.int .i8 y) ∧ g < w.heap.size from fun q hq => by
    obtain ⟨g, c, a⟩ := h.at_wo (by rw [L.wo]; omega)
    obtain ⟨y, hy⟩ : ∃ y, d.wo[q]? = some y := ⟨_, List.getElem?_eq_getElem (by rw [L.wo]; exact hq)⟩
    exact ⟨g, c, y, hy, by rw [← L.wo]; exact a.len_wo.1, by rw [← L.wo]; exact a.len_wo.2, a.cap, a.wo hy, a.lt⟩)
  obtain ⟨A, cy, e1, _⟩ := h.head_wy
  rw [L.wy] at e1
  have zp := h.plt
  have hmk : ∀ w, (Instr.makeSlice 25 (.int .i64 (n : Int)) (.int .i64 (n : Int))).run Tryz.prog w = .ok (.slice (some ⟨w.heap.size, 0, none⟩) n n) (w.alloc (.cells (madeCells #[.bool false] n) 4)) := fun w => run_make_row' (P := Tryz.prog) 25 4 (.bool false) 1 Tryz.underlying25 (by kernel_rfl) rfl .i64 .i64 n (by omega) (by omega) w
  have H0 := Lib.hid (show TrRel w (w.alloc (.cells (madeCells #[Value.bool false] n) 4)) d.wo n 0 from ⟨by rw [trArr_nil]; exact new_heap w _, (Below.refl _ _).alloc (Nat.le_refl _) _⟩)
  clear h L hwl
  go_enter Tryz.func33, Tryz.ntmps33
  go_wp2_with fail
  generalize w.alloc (.cells (madeCells #[Value.bool false] n) 4) = w1 at H0 ⊢
  go_loopw [13] (fun i wr => ∃ k : Nat, k ≤ n ∧ i = .int .i64 k ∧ Hid (TrRel w wr d.wo n k)) (fun i _ => n - (intOf i).toNat)
  case atStart => exact ⟨0, by omega, rfl, H0⟩
  case round =>
    obtain ⟨k, hk, rfl, R⟩ := hrel
    by_cases hlt : k < n
    · obtain ⟨g, c, y, hy, e2, e3, e4, e5, e6⟩ := HA.out (2 * k) (by omega)
      have HB := Lib.hid R.out.below
      have f2 : wr.cell? ⟨p, 2, none⟩ = some (.slice (some ⟨g, 0, none⟩) (2 * n) c) := (HB.out.cell (p := ⟨p, 2, none⟩) zp).trans e2
      have x2 : wr.cell? ⟨g, 2 * k, none⟩ = some (.int .i8 y) := (HB.out.cell (p := ⟨g, 2 * k, none⟩) e6).trans e5
      have hfg := R.out.has.free k
      have hcg : wr.cell? ⟨w.heap.size, k, none⟩ = some (.bool (decide (k < k) && decide (d.wo[2 * k]? = some 1))) := by rw [R.out.has.cell, trArr_get hlt]
      have b1 : (0 : Int) ≤ 2 * (k : Int) := by omega
      have b2 : 2 * (k : Int) < ((2 * n : Nat) : Int) := by omega
      have HY := Lib.hid (show decide (y = 1) = decide (d.wo[2 * k]? = some 1) by rw [hy]; simp)
      have HP := Lib.hid (R.out.put (x := decide (y = 1)) hlt HY.out)
      clear hy e2 e5
      go_wp2_with fail
      go_roundw
      case rel => exact ⟨k + 1, by omega, by go_num, HP⟩
      case measure => simp [intOf]; omega
    · obtain rfl : k = n := by omega
      go_wp2_with fail
      go_ret
      exact ⟨rfl, R.out⟩
end
end Go.Proofs.YtpmdnbdmocdngaaGreat

namespace Go.Proofs.YtpmdnbdmocdngaaGreat
open Go.ChangeShapes Go.WideShapes Go.ChangeAt Go.RowKit
set_option linter.unusedVariables false
set_option linter.unusedSimpArgs false

/-- All stays but block g, and what is made. -/
structure Ap (g : Nat) (w w' : World) : Prop where
  os : w'.os = w.os
  tape : w'.tape = w.tape
  output : w'.output = w.output
  size : w.heap.size ≤ w'.heap.size
  block : ∀ k, k < w.heap.size → k ≠ g → w'.heap[k]? = w.heap[k]?
theorem Ap.refl (g : Nat) (w : World) : Ap g w w := ⟨rfl, rfl, rfl, Nat.le_refl _, fun _ _ _ => rfl⟩
theorem Ap.trans {g : Nat} {a b c : World} (h : Ap g a b) (k : Ap g b c) : Ap g a c := ⟨k.os.trans h.os, k.tape.trans h.tape, k.output.trans h.output, Nat.le_trans h.size k.size, fun i hi hg => (k.block i (Nat.lt_of_lt_of_le hi h.size) hg).trans (h.block i hi hg)⟩
theorem Ap.of_below {g : Nat} {a b : World} (h : Below a.heap.size a b) : Ap g a b := ⟨h.os, h.tape, h.output, h.size, fun i hi _ => h.block i hi⟩
theorem Ap.below {g : Nat} {B : Nat} {a b : World} (h : Ap g a b) (hB : B ≤ g) (hB2 : B ≤ a.heap.size) : Below B a b := ⟨h.os, h.tape, h.output, h.size, fun i hi => h.block i (by omega) (by omega)⟩
theorem Ap.put {g : Nat} {a b : World} (h : Ap g a b) (i : Nat) (u : Value) : Ap g a (b.setCell ⟨g, i, none⟩ u) := ⟨h.os, h.tape, h.output, by simpa [World.setCell] using h.size, fun k hk hg => (by
  rw [← h.block k hk hg]
  simp only [World.setCell, Array.getElem?_modify]
  rw [if_neg (fun e => hg e.symm)])⟩
theorem Ap.draws {g : Nat} {a b : World} (h : Ap g a b) (n : Nat) : Ap g a (b.drewN n) := ⟨h.os, h.tape, h.output, h.size, h.block⟩
/-- A row's cells. -/
def arr32 (ys : List Int) (rest : List Value) : Array Value := (ys.map (Value.int .i32) ++ rest).toArray
theorem arr32_get {ys : List Int} {rest : List Value} {i : Nat} {y : Int} (h : ys[i]? = some y) : (arr32 ys rest)[i]? = some (.int .i32 y) := by
  unfold arr32
  have hi := (List.getElem?_eq_some_iff.1 h).1
  rw [List.getElem?_toArray, List.getElem?_append_left (by simpa using hi), List.getElem?_map, h]; rfl
theorem arr32_put {ys : List Int} {rest : List Value} {i : Nat} (h : i < ys.length) (z : Int) : (arr32 ys rest).setIfInBounds i (.int .i32 z) = arr32 (ys.set i z) rest := by
  unfold arr32
  rw [List.setIfInBounds_toArray, List.set_append_left _ _ (by simpa using h), List.map_set]
theorem swap_perm {ys : List Int} {i j : Nat} {a b : Int} (hi : ys[i]? = some a) (hj : ys[j]? = some b) (hne : i ≠ j) : ((ys.set i b).set j a).Perm ys := by
  have h1 := (List.getElem?_eq_some_iff.1 hi)
  have h2 := (List.getElem?_eq_some_iff.1 hj)
  obtain ⟨h1, e1⟩ := h1
  obtain ⟨h2, e2⟩ := h2
  have := List.set_set_perm h1 h2
  rw [e1, e2] at this
  exact this
/-- The row in block g is what it was but for its order. -/
def Srt (g : Nat) (xs : List Int) (rest : List Value) (w w' : World) : Prop := Ap g w w' ∧ ∃ ys, ys.Perm xs ∧ HasB w' g 21 (arr32 ys rest)
theorem Srt.refl {g : Nat} {xs : List Int} {rest : List Value} {w : World} (h : HasB w g 21 (arr32 xs rest)) : Srt g xs rest w w := ⟨Ap.refl g w, xs, List.Perm.refl _, h⟩
theorem Srt.then {g : Nat} {xs : List Int} {rest : List Value} {w w' w'' : World} (h : Srt g xs rest w w') (k : ∀ ys, HasB w' g 21 (arr32 ys rest) → ys.length = xs.length → Srt g ys rest w' w'') : Srt g xs rest w w'' := by
  obtain ⟨a, ys, p, hb⟩ := h
  obtain ⟨a2, zs, p2, hb2⟩ := k ys hb p.length_eq
  exact ⟨a.trans a2, zs, p2.trans p, hb2⟩
theorem Srt.draws {g : Nat} {xs : List Int} {rest : List Value} {w w' : World} (h : Srt g xs rest w w') (n : Nat) : Srt g xs rest w (w'.drewN n) := ⟨h.1.draws n, h.2⟩
theorem Srt.swap {g : Nat} {xs ys : List Int} {rest : List Value} {w w' : World} (h : Ap g w w') (p : ys.Perm xs) (hb : HasB w' g 21 (arr32 ys rest)) {i j : Nat} {a b : Int} (hi : ys[i]? = some a) (hj : ys[j]? = some b) (hne : i ≠ j) :
    Srt g xs rest w ((w'.setCell ⟨g, i, none⟩ (.int .i32 b)).setCell ⟨g, j, none⟩ (.int .i32 a)) := by
  refine ⟨(h.put i _).put j _, _, (swap_perm hi hj hne).trans p, ?_⟩
  have h1 := (hb.put i (.int .i32 b)).put j (.int .i32 a)
  rwa [arr32_put (List.getElem?_eq_some_iff.1 hi).1, arr32_put (by rw [List.length_set]; exact (List.getElem?_eq_some_iff.1 hj).1)] at h1

section
variable {w : World} {g cap : Nat} {xs : List Int} {rest : List Value} {fv : Value}
set_option maxHeartbeats 3200000 in
set_option maxRecDepth 4000 in
theorem swaprange_any (h : HasB w g 21 (arr32 xs rest)) (hx : xs.length ≤ 4611686018427387904) (a b k : Nat) (hab : a + k ≤ b) (hb : b + k ≤ xs.length) :
    Calls Tryz.prog 230 #[.slice (some ⟨g, 0, none⟩) xs.length cap, .int .i64 (a : Int), .int .i64 (b : Int), .int .i64 (k : Int), fv] w fun e w' => e = .returned (.tuple #[]) ∧ Srt g xs rest w w' := by
  have R0 := Lib.hid (Srt.refl h)
  clear h
  go_enter Tryz.func230, Tryz.ntmps230
  go_wp2_with fail
  go_loopw [10] (fun v wr => ∃ i : Nat, i ≤ k ∧ v = .int .i64 i ∧ Hid (Srt g xs rest w wr)) (fun v _ => k - (intOf v).toNat)
  case atStart => exact ⟨0, Nat.zero_le _, rfl, R0⟩
  case round =>
    clear R0
    obtain ⟨i, hi, rfl, R⟩ := hrel
    by_cases hlt : i < k
    · obtain ⟨ap, ys, pm, hb2⟩ := R.out
      have hl := pm.length_eq
      obtain ⟨p, hp⟩ : ∃ p, a + i = p := ⟨_, rfl⟩
      obtain ⟨q, hq⟩ : ∃ q, b + i = q := ⟨_, rfl⟩
      obtain ⟨y, hy⟩ : ∃ y, ys[p]? = some y := ⟨_, List.getElem?_eq_getElem (by omega)⟩
      obtain ⟨z, hz⟩ : ∃ z, ys[q]? = some z := ⟨_, List.getElem?_eq_getElem (by omega)⟩
      have c1 : wr.cell? ⟨g, p, none⟩ = some (.int .i32 y) := (hb2.cell p).trans (arr32_get hy)
      have c2 : wr.cell? ⟨g, q, none⟩ = some (.int .i32 z) := (hb2.cell q).trans (arr32_get hz)
      have f1 := hb2.free p
      have f2 := hb2.free q
      have s1 : (a : Int) + (i : Int) = (p : Int) := by omega
      have s2 : (b : Int) + (i : Int) = (q : Int) := by omega
      have s3 : IntKind.i64.wrap (p : Int) = (p : Int) := wrap_in (by omega) (by omega)
      have s4 : IntKind.i64.wrap (q : Int) = (q : Int) := wrap_in (by omega) (by omega)
      have hne : ¬ p = q := by omega
      have hne2 : ¬ q = p := by omega
      have b1 : (p : Int) < (xs.length : Int) := by omega
      have b2 : (q : Int) < (xs.length : Int) := by omega
      have hik : (i : Int) < (k : Int) := by omega
      have T1 := Lib.hid (fun m => (Srt.swap ap pm hb2 hz hy hne2).draws m)
      have T2 := Lib.hid (fun m => (Srt.swap ap pm hb2 hy hz hne).draws m)
      clear ap pm hb2 hy hz R hl hp hq
      go_wp2_with fail
      go_region
      all_goals (go_wp2_with fail; go_roundw; (case rel => exact ⟨i + 1, by omega, by go_num, by first | exact T1.out 1 | exact T2.out 1⟩); (case measure => simp [intOf]; omega))
    · go_wp2_with fail
      go_end0
      exact ⟨rfl, R.out⟩
end
end Go.Proofs.YtpmdnbdmocdngaaGreat

namespace Go.Proofs.YtpmdnbdmocdngaaGreat
open Go.ChangeShapes Go.WideShapes Go.ChangeAt Go.RowKit
set_option linter.unusedVariables false
set_option linter.unusedSimpArgs false

section
variable {w wr : World} {g cap : Nat} {xs : List Int} {rest : List Value} {fv : Value}
theorem swaprange_srt (R : Srt g xs rest w wr) (hx : xs.length ≤ 4611686018427387904) (a b k : Nat) (hab : a + k ≤ b) (hb : b + k ≤ xs.length) :
    Calls Tryz.prog 230 #[.slice (some ⟨g, 0, none⟩) xs.length cap, .int .i64 (a : Int), .int .i64 (b : Int), .int .i64 (k : Int), fv] wr fun e w' => e = .returned (.tuple #[]) ∧ Srt g xs rest w w' := by
  obtain ⟨ap, ys, pm, hh⟩ := R
  have hl := pm.length_eq
  have c := swaprange_any (cap := cap) (fv := fv) hh (by omega) a b k hab (by omega)
  rw [hl] at c
  exact c.mono fun e w' h => ⟨h.1, ap.trans h.2.1, by obtain ⟨zs, p, q⟩ := h.2.2; exact ⟨zs, p.trans pm, q⟩⟩
set_option maxHeartbeats 3200000 in
set_option maxRecDepth 4000 in
theorem rotate_any (R : Srt g xs rest w wr) (hx : xs.length ≤ 4611686018427387904) (a m b : Nat) (ha : a < m) (hm : m < b) (hb : b ≤ xs.length) :
    Calls Tryz.prog 228 #[.slice (some ⟨g, 0, none⟩) xs.length cap, .int .i64 (a : Int), .int .i64 (m : Int), .int .i64 (b : Int), fv] wr fun e w' => e = .returned (.tuple #[]) ∧ Srt g xs rest w w' := by
  have R0 := Lib.hid R
  clear R
  obtain ⟨i0, hi0⟩ : ∃ i0, m - a = i0 := ⟨_, rfl⟩
  obtain ⟨j0, hj0⟩ : ∃ j0, b - m = j0 := ⟨_, rfl⟩
  have s1 : IntKind.i64.wrap ((m : Int) - (a : Int)) = (i0 : Int) := by rw [show (m : Int) - (a : Int) = (i0 : Int) by omega]; exact wrap_in (by omega) (by omega)
  have s2 : IntKind.i64.wrap ((b : Int) - (m : Int)) = (j0 : Int) := by rw [show (b : Int) - (m : Int) = (j0 : Int) by omega]; exact wrap_in (by omega) (by omega)
  go_enter Tryz.func228, Tryz.ntmps228
  go_wp2_with fail
  go_loopw [10, 11] (fun iv jv W => ∃ i j : Nat, 1 ≤ i ∧ 1 ≤ j ∧ i ≤ m ∧ m + j ≤ xs.length ∧ iv = .int .i64 i ∧ jv = .int .i64 j ∧ Hid (Srt g xs rest w W)) (fun iv jv _ => (intOf iv).toNat + (intOf jv).toNat)
  case atStart => exact ⟨i0, j0, by omega, by omega, by omega, by omega, rfl, rfl, R0⟩
  case round =>
    clear R0 s1 s2
    obtain ⟨i, j, hi, hj, him, hjm, rfl, rfl, R⟩ := hrel
    obtain ⟨p, hp⟩ : ∃ p, m - i = p := ⟨_, rfl⟩
    have t1 : IntKind.i64.wrap ((m : Int) - (i : Int)) = (p : Int) := by rw [show (m : Int) - (i : Int) = (p : Int) by omega]; exact wrap_in (by omega) (by omega)
    by_cases he : i = j
    · subst he
      have e1 : ((i : Int) != (i : Int)) = false := by simp
      have K := Lib.hid (swaprange_srt (cap := cap) (fv := fv) R.out hx p m i (by omega) (by omega))
      go_wp2_with fail
      (with_reducible refine K.out.mono ?_)
      rintro e w' ⟨rfl, h⟩
      go_wp2_with fail
      go_end0
      exact ⟨rfl, h⟩
    · have e1 : ((i : Int) != (j : Int)) = true := by simp; omega
      by_cases hgt : (j : Int) < (i : Int)
      · obtain ⟨i', hi'⟩ : ∃ i', i - j = i' := ⟨_, rfl⟩
        have t2 : IntKind.i64.wrap ((i : Int) - (j : Int)) = (i' : Int) := by rw [show (i : Int) - (j : Int) = (i' : Int) by omega]; exact wrap_in (by omega) (by omega)
        have K := Lib.hid (swaprange_srt (cap := cap) (fv := fv) R.out hx p m j (by omega) (by omega))
        go_wp2_with fail
        (with_reducible refine K.out.mono ?_)
        rintro e w' ⟨rfl, h⟩
        have R2 := Lib.hid h
        clear h K
        go_wp2_with fail
        go_roundw
        case rel => exact ⟨i', j, by omega, by omega, by omega, by omega, rfl, rfl, R2⟩
        case measure => simp [intOf]; omega
      · obtain ⟨j', hj'⟩ : ∃ j', j - i = j' := ⟨_, rfl⟩
        obtain ⟨q, hq⟩ : ∃ q, m + j - i = q := ⟨_, rfl⟩
        obtain ⟨q0, hq0⟩ : ∃ q0, m + j = q0 := ⟨_, rfl⟩
        have t2 : IntKind.i64.wrap ((j : Int) - (i : Int)) = (j' : Int) := by rw [show (j : Int) - (i : Int) = (j' : Int) by omega]; exact wrap_in (by omega) (by omega)
        have t3 : IntKind.i64.wrap ((m : Int) + (j : Int)) = (q0 : Int) := by rw [show (m : Int) + (j : Int) = (q0 : Int) by omega]; exact wrap_in (by omega) (by omega)
        have t4 : IntKind.i64.wrap ((q0 : Int) - (i : Int)) = (q : Int) := by rw [show (q0 : Int) - (i : Int) = (q : Int) by omega]; exact wrap_in (by omega) (by omega)
        have K := Lib.hid (swaprange_srt (cap := cap) (fv := fv) R.out hx p q i (by omega) (by omega))
        go_wp2_with fail
        (with_reducible refine K.out.mono ?_)
        rintro e w' ⟨rfl, h⟩
        have R2 := Lib.hid h
        clear h K
        go_wp2_with fail
        go_roundw
        case rel => exact ⟨i, j', by omega, by omega, by omega, by omega, rfl, rfl, R2⟩
        case measure => simp [intOf]; omega
end
end Go.Proofs.YtpmdnbdmocdngaaGreat

namespace Go.Proofs.YtpmdnbdmocdngaaGreat
open Go.ChangeShapes Go.WideShapes Go.ChangeAt Go.RowKit
set_option linter.unusedVariables false
set_option linter.unusedSimpArgs false

/-- The comparing function that learned makes. -/
def cmpF (pb : Value) : Value := .func (.func 175) #[] #[pb]
/-- What it is asked: an answer, and nothing written that was there. -/
def CmpOk (g : Nat) (xs : List Int) (pb : Value) (w0 : World) : Prop := ∀ W, Ap g w0 W → ∀ x ∈ xs, ∀ y ∈ xs, Calls Tryz.prog 175 #[.int .i32 x, .int .i32 y, pb] W fun e w' => (∃ z : Int, e = .returned (.int .i64 z)) ∧ Below W.heap.size W w'
section
variable {w wr : World} {g cap : Nat} {xs : List Int} {rest : List Value} {pb : Value}
theorem Srt.at {W : World} (R : Srt g xs rest w W) {p : Nat} (hp : p < xs.length) : ∃ y, y ∈ xs ∧ W.cell? ⟨g, p, none⟩ = some (.int .i32 y) ∧ W.frozen? ⟨g, p, none⟩ = false := by
  obtain ⟨ap, ys, pm, hb⟩ := R
  obtain ⟨y, hy⟩ : ∃ y, ys[p]? = some y := ⟨_, List.getElem?_eq_getElem (by have := pm.length_eq; omega)⟩
  exact ⟨y, pm.mem_iff.1 (List.mem_of_getElem? hy), (hb.cell p).trans (arr32_get hy), hb.free p⟩
theorem Srt.ap {W : World} (R : Srt g xs rest w W) : Ap g w W := R.1
theorem Srt.on {W W' : World} (R : Srt g xs rest w W) (b : Below W.heap.size W W') : Srt g xs rest w W' := by
  obtain ⟨ap, ys, pm, hb⟩ := R
  exact ⟨ap.trans (Ap.of_below b), ys, pm, (b.block g (lt_of_heap hb)).trans hb⟩
theorem Srt.two {W : World} (R : Srt g xs rest w W) {p q : Nat} (hp : p < xs.length) (hq : q < xs.length) (hne : p ≠ q) : ∃ y z, y ∈ xs ∧ z ∈ xs ∧ W.cell? ⟨g, p, none⟩ = some (.int .i32 y) ∧ W.cell? ⟨g, q, none⟩ = some (.int .i32 z) ∧ W.frozen? ⟨g, p, none⟩ = false ∧ W.frozen? ⟨g, q, none⟩ = false ∧
    (∀ m, Srt g xs rest w (((W.setCell ⟨g, p, none⟩ (.int .i32 z)).setCell ⟨g, q, none⟩ (.int .i32 y)).drewN m)) ∧ (∀ m, Srt g xs rest w (((W.setCell ⟨g, q, none⟩ (.int .i32 y)).setCell ⟨g, p, none⟩ (.int .i32 z)).drewN m)) := by
  obtain ⟨ap, ys, pm, hb⟩ := R
  have hl := pm.length_eq
  obtain ⟨y, hy⟩ : ∃ y, ys[p]? = some y := ⟨_, List.getElem?_eq_getElem (by omega)⟩
  obtain ⟨z, hz⟩ : ∃ z, ys[q]? = some z := ⟨_, List.getElem?_eq_getElem (by omega)⟩
  exact ⟨y, z, pm.mem_iff.1 (List.mem_of_getElem? hy), pm.mem_iff.1 (List.mem_of_getElem? hz), (hb.cell p).trans (arr32_get hy), (hb.cell q).trans (arr32_get hz), hb.free p, hb.free q, fun m => (Srt.swap ap pm hb hy hz hne).draws m, fun m => (Srt.swap ap pm hb hz hy hne.symm).draws m⟩
set_option maxHeartbeats 800000 in
set_option maxRecDepth 4000 in
theorem insertion_any (C : CmpOk g xs pb w) (R : Srt g xs rest w wr) (hx : xs.length ≤ 4611686018427387904) (a b : Nat) (hab : a ≤ b) (hb : b ≤ xs.length) :
    Calls Tryz.prog 220 #[.slice (some ⟨g, 0, none⟩) xs.length cap, .int .i64 (a : Int), .int .i64 (b : Int), cmpF pb] wr fun e w' => e = .returned (.tuple #[]) ∧ Srt g xs rest w w' := by
  have R0 := Lib.hid R
  have HC := Lib.hid C
  clear R C
  unfold cmpF
  have s1 : IntKind.i64.wrap ((a : Int) + 1) = ((a + 1 : Nat) : Int) := by rw [show (a : Int) + 1 = ((a + 1 : Nat) : Int) by omega]; exact wrap_in (by omega) (by omega)
  obtain ⟨a1, ha1⟩ : ∃ a1, a + 1 = a1 := ⟨_, rfl⟩
  rw [ha1] at s1
  go_enter Tryz.func220, Tryz.ntmps220
  go_wp2_with fail
  go_loopw [8] (fun iv W => ∃ i : Nat, a < i ∧ iv = .int .i64 i ∧ Hid (Srt g xs rest w W)) (fun iv _ => b - (intOf iv).toNat)
  case atStart => exact ⟨a1, by omega, rfl, R0⟩
  case round =>
    clear R0 s1
    obtain ⟨i, hi, rfl, R⟩ := hrel
    by_cases hlt : (i : Int) < (b : Int)
    · obtain ⟨wo, rfl⟩ : ∃ wo, wo = wr := ⟨_, rfl⟩
      have R1 : Hid (Srt g xs rest w wo) := R
      clear R
      go_wp2_with fail
      go_loopw [9] (fun jv W => ∃ j : Nat, a ≤ j ∧ j ≤ i ∧ jv = .int .i64 j ∧ Hid (Srt g xs rest w W)) (fun jv _ => (intOf jv).toNat)
      case atStart => exact ⟨i, by omega, Nat.le_refl _, rfl, R1⟩
      case round =>
        clear R1
        obtain ⟨j, hj, hji, rfl, R⟩ := hrel
        by_cases hgt : (a : Int) < (j : Int)
        · obtain ⟨p, hp⟩ : ∃ p, j = p + 1 := ⟨j - 1, by omega⟩
          subst hp
          have t1 : IntKind.i64.wrap (((p + 1 : Nat) : Int) - 1) = (p : Int) := by rw [show ((p + 1 : Nat) : Int) - 1 = (p : Int) by omega]; exact wrap_in (by omega) (by omega)
          obtain ⟨q, hq⟩ : ∃ q, p + 1 = q := ⟨_, rfl⟩
          rw [hq] at t1
          rw [hq] at hgt hj hji
          simp only [hq]
          have hpl : p < xs.length := by omega
          have hql : q < xs.length := by omega
          obtain ⟨y, z, hy, hz, c1, c2, f1, f2, T1, T2⟩ := R.out.two hpl hql (by omega)
          have b1 : (p : Int) < (xs.length : Int) := by omega
          have b2 : (q : Int) < (xs.length : Int) := by omega
          have KC := Lib.hid (fun W (h : Ap g w W) => HC.out W h z hz y hy)
          go_wp2_with fail
          have R2 : Hid (Srt g xs rest w wr.drew) := Lib.hid (R.out.draws 1)
          go_still_tail 14, (by kernel_rfl)
          change wpList _ _ _ _ _ wr.drew
          clear R c1 c2 f1 f2 T1 T2
          generalize wr.drew = w2 at *
          go_wp2_with fail
          (with_reducible refine (KC.out w2 R2.out.ap).mono ?_)
          rintro e w3 ⟨⟨zz, rfl⟩, hb3⟩
          have R3 := Lib.hid (R2.out.on hb3)
          clear hb3 KC R2
          by_cases hzz : zz < 0
          · obtain ⟨y, z, _, _, c1, c2, f1, f2, T1, T2⟩ := R3.out.two hpl hql (by omega)
            have hne : ¬ p = q := by omega
            have hne2 : ¬ q = p := by omega
            have T1 := Lib.hid T1
            have T2 := Lib.hid T2
            clear R3
            go_wp2_with fail
            go_region
            all_goals (go_wp2_with fail; go_roundw; (case rel => exact ⟨p, by omega, by omega, rfl, by first | exact T1.out 1 | exact T2.out 1⟩); (case measure => simp [intOf]; omega))
          · go_wp2_with fail
            go_roundw
            case rel => exact ⟨i + 1, by omega, by go_num, R3⟩
            case measure => simp [intOf]; omega
        · obtain rfl : j = a := by omega
          go_wp2_with fail
          go_quiet (fail)
          go_wp2_with fail
          go_roundw
          case rel => exact ⟨i + 1, by omega, by go_num, Lib.hid (R.out.draws _)⟩
          case measure => simp [intOf]; omega
    · go_wp2_with fail
      go_end0
      exact ⟨rfl, R.out⟩
end
end Go.Proofs.YtpmdnbdmocdngaaGreat

namespace Go.Proofs.YtpmdnbdmocdngaaGreat
open Go.ChangeShapes Go.WideShapes Go.ChangeAt Go.RowKit
set_option linter.unusedVariables false
set_option linter.unusedSimpArgs false

section
variable {w wr : World} {g cap : Nat} {xs : List Int} {rest : List Value} {pb : Value}
theorem midd_of {i j x : Nat} (hx : j ≤ x) (hij : i < j) (hb : x ≤ 4611686018427387904) : ∃ s h : Nat, (i : Int) + (j : Int) = (s : Int) ∧ IntKind.i64.wrap (s : Int) = (s : Int) ∧ IntKind.u64.wrap (s : Int) = (s : Int) ∧ (s : Int) / 2 = (h : Int) ∧ IntKind.i64.wrap (h : Int) = (h : Int) ∧ IntKind.u64.wrap (h : Int) = (h : Int) ∧ i ≤ h ∧ h < j :=
  ⟨i + j, (i + j) / 2, by omega, wrap_in (by omega) (by omega), (by rw [IntKind.wrap_u64]; omega), by omega, wrap_in (by omega) (by omega), (by rw [IntKind.wrap_u64]; omega), by omega, by omega⟩
set_option maxHeartbeats 1600000 in
set_option maxRecDepth 8000 in
theorem symone_any (C : CmpOk g xs pb w) (R : Srt g xs rest w wr) (hx : xs.length ≤ 4611686018427387000) (a m b : Nat) (ha : a + 1 = m) (hm : m < b) (hb : b ≤ xs.length) :
    Calls Tryz.prog 221 #[.slice (some ⟨g, 0, none⟩) xs.length cap, .int .i64 (a : Int), .int .i64 (m : Int), .int .i64 (b : Int), cmpF pb] wr fun e w' => e = .returned (.tuple #[]) ∧ Srt g xs rest w w' := by
  have R0 := Lib.hid R
  have HC := Lib.hid C
  clear R C
  unfold cmpF
  have s1 : IntKind.i64.wrap ((m : Int) - (a : Int)) = 1 := by rw [show (m : Int) - (a : Int) = 1 by omega]; exact wrap_in (by omega) (by omega)
  go_enter Tryz.func221, Tryz.ntmps221
  go_wp2_with fail
  go_loopw [10, 11] (fun iv jv W => ∃ i j : Nat, m ≤ i ∧ i ≤ j ∧ j ≤ b ∧ iv = .int .i64 i ∧ jv = .int .i64 j ∧ Hid (Srt g xs rest w W)) (fun iv jv _ => (intOf jv).toNat - (intOf iv).toNat)
  case atStart => exact ⟨m, b, Nat.le_refl _, by omega, Nat.le_refl _, rfl, rfl, R0⟩
  case round =>
    clear R0 s1
    obtain ⟨i, j, hi, hij, hj, rfl, rfl, R⟩ := hrel
    by_cases hlt : (i : Int) < (j : Int)
    · obtain ⟨s, h, q1, q2, q3, q4, q5, q6, q7, q8⟩ := midd_of (i := i) (j := j) (x := b) hj (by omega) (by omega)
      obtain ⟨y, hy, c1, f1⟩ := R.out.at (p := h) (by omega)
      obtain ⟨z, hz, c2, f2⟩ := R.out.at (p := a) (by omega)
      have b1 : (h : Int) < (xs.length : Int) := by omega
      have b2 : (a : Int) < (xs.length : Int) := by omega
      have KC := Lib.hid (fun W (h : Ap g w W) => HC.out W h y hy z hz)
      obtain ⟨h1, hh1⟩ : ∃ h1, h + 1 = h1 := ⟨_, rfl⟩
      have t1 : IntKind.i64.wrap ((h : Int) + 1) = (h1 : Int) := by rw [show (h : Int) + 1 = (h1 : Int) by omega]; exact wrap_in (by omega) (by omega)
      go_wp2_with fail
      have R2 : Hid (Srt g xs rest w wr.drew) := Lib.hid (R.out.draws 1)
      go_still_tail 9, (by kernel_rfl)
      change wpList _ _ _ _ _ wr.drew
      clear R c1 c2 f1 f2
      generalize wr.drew = w2 at *
      go_wp2_with fail
      (with_reducible refine (KC.out w2 R2.out.ap).mono ?_)
      rintro e w3 ⟨⟨zz, rfl⟩, hb3⟩
      have R3 := Lib.hid (R2.out.on hb3)
      clear hb3 KC R2
      by_cases hzz : zz < 0
      · go_wp2_with fail
        go_roundw
        case rel => exact ⟨h1, j, by omega, by omega, by omega, rfl, rfl, R3⟩
        case measure => simp [intOf]; omega
      · go_wp2_with fail
        go_roundw
        case rel => exact ⟨i, h, by omega, by omega, by omega, rfl, rfl, R3⟩
        case measure => simp [intOf]; omega
    · obtain ⟨i1, hi1⟩ : ∃ i1, i = i1 + 1 := ⟨i - 1, by omega⟩
      have t1 : IntKind.i64.wrap ((i : Int) - 1) = (i1 : Int) := by rw [show (i : Int) - 1 = (i1 : Int) by omega]; exact wrap_in (by omega) (by omega)
      go_wp2_with fail
      obtain ⟨wo, rfl⟩ : ∃ wo, wo = wr := ⟨_, rfl⟩
      have R1 : Hid (Srt g xs rest w wo) := R
      clear R
      go_loopw [13] (fun kv W => ∃ k : Nat, kv = .int .i64 k ∧ Hid (Srt g xs rest w W)) (fun kv _ => i1 - (intOf kv).toNat)
      case atStart => exact ⟨a, rfl, R1⟩
      case round =>
        clear R1
        obtain ⟨k, rfl, R⟩ := hrel
        by_cases hk : (k : Int) < (i1 : Int)
        · obtain ⟨q, hq⟩ : ∃ q, k + 1 = q := ⟨_, rfl⟩
          have t2 : IntKind.i64.wrap ((k : Int) + 1) = (q : Int) := by rw [show (k : Int) + 1 = (q : Int) by omega]; exact wrap_in (by omega) (by omega)
          obtain ⟨y, z, _, _, c1, c2, f1, f2, T1, T2⟩ := R.out.two (p := k) (q := q) (by omega) (by omega) (by omega)
          have b1 : (k : Int) < (xs.length : Int) := by omega
          have b2 : (q : Int) < (xs.length : Int) := by omega
          have hne : ¬ k = q := by omega
          have hne2 : ¬ q = k := by omega
          have T1 := Lib.hid T1
          have T2 := Lib.hid T2
          clear R
          go_wp2_with fail
          go_region
          all_goals (go_wp2_with fail; go_roundw; (case rel => exact ⟨q, rfl, by first | exact T1.out 1 | exact T2.out 1⟩); (case measure => simp [intOf]; omega))
        · go_wp2_with fail
          refine bodyPost_ret (results_none rfl _ _ _) rfl ?_
          exact ⟨rfl, R.out⟩
set_option maxHeartbeats 1600000 in
set_option maxRecDepth 8000 in
theorem symtwo_any (C : CmpOk g xs pb w) (R : Srt g xs rest w wr) (hx : xs.length ≤ 4611686018427387000) (a m b : Nat) (ha : a + 2 ≤ m) (hm : m + 1 = b) (hb : b ≤ xs.length) :
    Calls Tryz.prog 221 #[.slice (some ⟨g, 0, none⟩) xs.length cap, .int .i64 (a : Int), .int .i64 (m : Int), .int .i64 (b : Int), cmpF pb] wr fun e w' => e = .returned (.tuple #[]) ∧ Srt g xs rest w w' := by
  have R0 := Lib.hid R
  have HC := Lib.hid C
  clear R C
  unfold cmpF
  obtain ⟨d, hd⟩ : ∃ d : Nat, m - a = d := ⟨_, rfl⟩
  have s1 : IntKind.i64.wrap ((m : Int) - (a : Int)) = (d : Int) := by rw [show (m : Int) - (a : Int) = (d : Int) by omega]; exact wrap_in (by omega) (by omega)
  have e1 : ((d : Int) == 1) = false := beq_eq_false_iff_ne.2 (by omega)
  have s2 : IntKind.i64.wrap ((b : Int) - (m : Int)) = 1 := by rw [show (b : Int) - (m : Int) = 1 by omega]; exact wrap_in (by omega) (by omega)
  go_enter Tryz.func221, Tryz.ntmps221
  go_wp2_with fail
  go_loopw [14, 15] (fun iv jv W => ∃ i j : Nat, a ≤ i ∧ i ≤ j ∧ j ≤ m ∧ iv = .int .i64 i ∧ jv = .int .i64 j ∧ Hid (Srt g xs rest w W)) (fun iv jv _ => (intOf jv).toNat - (intOf iv).toNat)
  case atStart => exact ⟨a, m, Nat.le_refl _, by omega, Nat.le_refl _, rfl, rfl, R0⟩
  case round =>
    clear R0 s1 s2 e1
    obtain ⟨i, j, hi, hij, hj, rfl, rfl, R⟩ := hrel
    by_cases hlt : (i : Int) < (j : Int)
    · obtain ⟨s, h, q1, q2, q3, q4, q5, q6, q7, q8⟩ := midd_of (i := i) (j := j) (x := m) hj (by omega) (by omega)
      obtain ⟨y, hy, c1, f1⟩ := R.out.at (p := h) (by omega)
      obtain ⟨z, hz, c2, f2⟩ := R.out.at (p := m) (by omega)
      have b1 : (h : Int) < (xs.length : Int) := by omega
      have b2 : (m : Int) < (xs.length : Int) := by omega
      have KC := Lib.hid (fun W (h : Ap g w W) => HC.out W h z hz y hy)
      obtain ⟨h1, hh1⟩ : ∃ h1, h + 1 = h1 := ⟨_, rfl⟩
      have t1 : IntKind.i64.wrap ((h : Int) + 1) = (h1 : Int) := by rw [show (h : Int) + 1 = (h1 : Int) by omega]; exact wrap_in (by omega) (by omega)
      go_wp2_with fail
      have R2 : Hid (Srt g xs rest w wr.drew) := Lib.hid (R.out.draws 1)
      go_still_tail 9, (by kernel_rfl)
      change wpList _ _ _ _ _ wr.drew
      clear R c1 c2 f1 f2
      generalize wr.drew = w2 at *
      go_wp2_with fail
      (with_reducible refine (KC.out w2 R2.out.ap).mono ?_)
      rintro e w3 ⟨⟨zz, rfl⟩, hb3⟩
      have R3 := Lib.hid (R2.out.on hb3)
      clear hb3 KC R2
      by_cases hzz : zz < 0
      all_goals
        go_wp2_with fail
        all_goals
          go_roundw
          case rel => first
            | exact ⟨i, h, by omega, by omega, by omega, rfl, rfl, R3⟩
            | exact ⟨h1, j, by omega, by omega, by omega, rfl, rfl, R3⟩
          case measure => simp [intOf]; omega
    · go_wp2_with fail
      obtain ⟨wo, rfl⟩ : ∃ wo, wo = wr := ⟨_, rfl⟩
      have R1 : Hid (Srt g xs rest w wo) := R
      clear R
      go_loopw [17] (fun kv W => ∃ k : Nat, k ≤ m ∧ kv = .int .i64 k ∧ Hid (Srt g xs rest w W)) (fun kv _ => (intOf kv).toNat)
      case atStart => exact ⟨m, Nat.le_refl _, rfl, R1⟩
      case round =>
        clear R1
        obtain ⟨q, hqm, rfl, R⟩ := hrel
        by_cases hk : (i : Int) < (q : Int)
        · obtain ⟨k, hq⟩ : ∃ k, k + 1 = q := ⟨q - 1, by omega⟩
          have t2 : IntKind.i64.wrap ((q : Int) - 1) = (k : Int) := by rw [show (q : Int) - 1 = (k : Int) by omega]; exact wrap_in (by omega) (by omega)
          obtain ⟨y, z, _, _, c1, c2, f1, f2, T1, T2⟩ := R.out.two (p := k) (q := q) (by omega) (by omega) (by omega)
          have b1 : (k : Int) < (xs.length : Int) := by omega
          have b2 : (q : Int) < (xs.length : Int) := by omega
          have hne : ¬ k = q := by omega
          have hne2 : ¬ q = k := by omega
          have T1 := Lib.hid T1
          have T2 := Lib.hid T2
          clear R
          go_wp2_with fail
          go_region
          all_goals (go_wp2_with fail; go_roundw; (case rel => exact ⟨k, by omega, rfl, by first | exact T1.out 1 | exact T2.out 1⟩); (case measure => simp [intOf]; omega))
        · go_wp2_with fail
          refine bodyPost_ret (results_none rfl _ _ _) rfl ?_
          exact ⟨rfl, R.out⟩
end
end Go.Proofs.YtpmdnbdmocdngaaGreat
