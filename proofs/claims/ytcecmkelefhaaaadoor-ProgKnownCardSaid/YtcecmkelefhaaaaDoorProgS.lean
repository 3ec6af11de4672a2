/-
  words of package prog: how an instruction is told. The library's table of powers of ten.
-/
import Derived.Test.YtcecmkelefhaaaaDoorProgK
import Derived.Test.YtcecmkelefhaaaaDoorLib
import Derived.Lib.ItoaLen
import Derived.Sort.Grow
namespace Go.Proofs.YtcecmkelefhaaaaDoor
open Go.ChangeShapes Go.WideShapes Go.ChangeAt Go.RowKit Go.Joins
set_option linter.unusedVariables false

/-- The library's table of powers of ten is as it was laid. -/
def Tb (W : World) : Prop := Lib.TabIs Tryd.prog W "internal/strconv.uint64pow10" .u64 Lib.pow10Tab
theorem gPow : ∃ g, Tryd.prog.globalNamed "internal/strconv.uint64pow10" = some g := by
  cases h : Tryd.prog.globalNamed "internal/strconv.uint64pow10" with
  | none =>
    have h1 : (Tryd.prog.globalNamed "internal/strconv.uint64pow10").isSome = true := by kernel_rfl
    rw [h] at h1
    cases h1
  | some g => exact ⟨g, rfl⟩
theorem Tb.lt {W : World} (h : Tb W) : ∃ g, Tryd.prog.globalNamed "internal/strconv.uint64pow10" = some g ∧ g < W.heap.size := by
  obtain ⟨g, hg⟩ := gPow
  refine ⟨g, hg, ?_⟩
  unfold Tb Lib.TabIs World.var? at h
  simp only [hg, Option.bind_some] at h
  rcases Nat.lt_or_ge g W.heap.size with h' | h'
  · exact h'
  · rw [Array.getElem?_eq_none h'] at h; simp at h
theorem Tb.block {W W' : World} (h : Tb W) (hb : ∀ g, Tryd.prog.globalNamed "internal/strconv.uint64pow10" = some g → W'.heap[g]? = W.heap[g]?) : Tb W' := by
  obtain ⟨g, hg⟩ := gPow
  unfold Tb Lib.TabIs World.var? at h ⊢
  simp only [hg, Option.bind_some] at h ⊢
  rw [hb g hg]
  exact h
theorem Tb.gw {W W' : World} (h : Tb W) (G : Gw W W') : Tb W' := h.block fun g hg => by
  obtain ⟨g', hg', hlt⟩ := h.lt
  rw [hg] at hg'
  injection hg' with e
  exact G.block g (by omega)
theorem Tb.below {W wr : World} (h : Tb W) (G : Gw W wr) : Lib.TabBelow Tryd.prog W.heap.size wr "internal/strconv.uint64pow10" .u64 Lib.pow10Tab := fun w' hb =>
  h.block fun g hg => by
    obtain ⟨g', hg', hlt⟩ := h.lt
    rw [hg] at hg'
    injection hg' with e
    exact (hb.block g (by omega)).trans (G.block g (by omega))
theorem dec_digs (n : Nat) : Lib.decDigits n = digs n := by
  induction n using Nat.strongRecOn with
  | _ n ih =>
    by_cases h : n < 10
    · rw [digs_small h, Lib.decDigits, dif_pos h]
    · rw [digs_big h, Lib.decDigits, dif_neg h, ih (n / 10) (by omega)]
theorem itoa_digs (n : Nat) : Lib.itoa (n : Int) = digs n := by rw [Lib.itoa_nonneg, dec_digs]
theorem digs_len (n : Nat) (h : n ≤ 9223372036854775807) : (digs n).length ≤ 21 := by
  rw [← itoa_digs]
  exact Lib.itoa_length_le n (by omega) (by omega)
theorem gw_grow {W : World} {k : Nat} {os : Array Obj} : Gw W (Sort.grow (W.drewN k) os) :=
  ⟨rfl, rfl, rfl, (by show W.heap.size ≤ (W.heap ++ os).size; rw [Array.size_append]; omega), fun j hj => by show (W.heap ++ os)[j]? = _; rw [Array.getElem?_append_left hj]⟩
theorem itoa_any (n : Nat) (h : n ≤ 9223372036854775807) {W : World} (hT : Tb W) : Calls Tryd.prog 35 #[.int .i64 n] W fun e W' => e = .returned (.string ⟨(digs n).toArray⟩) ∧ Gw W W' :=
  (Tryd.strconv_Itoa n (by omega) (by omega) W hT).mono fun e W' ⟨he, k, os, hw⟩ => ⟨by rw [he, itoa_digs], by rw [hw]; exact gw_grow⟩
/-- How an instruction is told. -/
def wd (x : Int × Int) : ByteArray := if okI x = true then (if 1 ≤ ms x.1.toNat then nm x.1.toNat ++ ⟨#[32]⟩ ++ ⟨(digs x.2.toNat).toArray⟩ else nm x.1.toNat) else ⟨#[63]⟩
theorem has_any (k : Nat) (h1 : 1 ≤ k) (hk : k < 42) (W : World) : Calls Tryd.prog 33 #[.int .i64 k] W fun e W' => e = .returned (.bool (decide (1 ≤ ms k))) ∧ Grown W W' := by
  have F := may_any ((k : Int), 1)
  have e : okI ((k : Int), 1) = decide (1 ≤ ms k) := by
    unfold okI mayB
    have h2 : (1 : Int) ≤ k ∧ (k : Int) < 42 := ⟨by omega, by omega⟩
    simp [h2]
  rw [e] at F
  generalize decide (1 ≤ ms k) = r at F ⊢
  clear e
  go_enter Tryd.func33, Tryd.ntmps33
  go_wp2_with (go_at_call 29; with_reducible refine (F _).mono ?_; rintro e w' ⟨rfl, G1⟩)
  go_ret
  exact ⟨rfl, G1⟩
structure SW (w0 : World) (b : Nat) (x : Int × Int) (W : World) : Prop where
  gw : Gw w0 W
  c0 : W.cell? ⟨b, 0, none⟩ = some (.int .i64 x.1)
  c1 : W.cell? ⟨b, 1, none⟩ = some (.int .i64 x.2)
  tb : Tb W
theorem SW.on {w0 W W' : World} {b : Nat} {x : Int × Int} (h : SW w0 b x W) (g : Gw W W') : SW w0 b x W' := ⟨h.gw.trans g, g.cell h.c0, g.cell h.c1, h.tb.gw g⟩
theorem toG {S : World → Prop} (hS : ∀ a b, S a → Gw a b → S b) {f : FuncId} {args : Array Value} {v : Value} {n : InP S} (h : Calls Tryd.prog f args n.val fun e w' => e = .returned v ∧ Gw n.val w') :
    Calls Tryd.prog f args n.val fun e w'' => e = .returned v ∧ ∃ m : InP S, w'' = m.val :=
  h.mono fun _ w' ⟨he, G⟩ => ⟨he, ⟨w', hS _ _ n.ok G⟩, rfl⟩
theorem nm_size (k : Nat) (hk : k < 42) : (nm k).size ≤ 20 := by
  have all : ∀ j : Fin 42, (nm j.val).size ≤ 20 := by decide +kernel
  exact all ⟨k, hk⟩
set_option maxHeartbeats 2000000 in
theorem words_any (x : Int × Int) {W : World} (hT : Tb W) : Calls Tryd.prog 24 #[.agg #[.int .i64 x.1, .int .i64 x.2]] W fun e W' => e = .returned (.string (wd x)) ∧ Gw W W' := by
  have HG := Gw.alloc W (.cells #[.int .i64 x.1, .int .i64 x.2] 41)
  obtain ⟨c0, c1, _, _⟩ := two_cells (heap_alloc_new W (.cells #[.int .i64 x.1, .int .i64 x.2] 41))
  have S0 : SW W W.heap.size x (W.alloc (.cells #[.int .i64 x.1, .int .i64 x.2] 41)) := ⟨HG, c0, c1, hT.gw HG⟩
  have hn : ∀ b w, (Op.unary .not (.bool b)).run Tryd.prog w = .ok (.bool (!b)) w := fun _ _ => rfl
  have F := may_any x
  clear c0 c1 HG hT
  cases hok : okI x with
  | false =>
    have hw : wd x = ⟨#[63]⟩ := by unfold wd; rw [hok]; rfl
    rw [hok] at F
    rw [hw]
    have S0 := Lib.hid S0
    have c0 := S0.out.c0
    have c1 := S0.out.c1
    clear hok hw
    go_enter Tryd.func24, Tryd.ntmps24
    go_wp2_with (go_at_call 29; with_reducible refine (F _).mono ?_; rintro e w' ⟨rfl, G1⟩)
    go_ret
    exact ⟨rfl, S0.out.gw.trans (Grown.gw G1)⟩
  | true =>
    obtain ⟨b1, b2, b3, b4⟩ := okI_bd hok
    rw [hok] at F
    obtain ⟨op, a⟩ := x
    simp only at b1 b2 b3 b4
    obtain ⟨k, rfl⟩ : ∃ k : Nat, op = k := ⟨op.toNat, by omega⟩
    obtain ⟨y, rfl⟩ : ∃ y : Nat, a = y := ⟨a.toNat, by omega⟩
    have FH := has_any k (by omega) (by omega)
    have FN := name_yes k (by omega) (by omega)
    by_cases hms : 1 ≤ ms k
    · have hw : wd ((k : Int), (y : Int)) = nm k ++ ⟨#[32]⟩ ++ ⟨(digs y).toArray⟩ := by
        unfold wd; rw [hok, if_pos rfl]; simp only [Int.toNat_natCast]; rw [if_pos hms]
      rw [hw]
      rw [decide_eq_true hms] at FH
      have S0 := Lib.hid S0
      have c0 := S0.out.c0
      have c1 := S0.out.c1
      simp only at c0 c1 F
      clear hok hw hms
      have HI := fun {W : World} (h : Tb W) => itoa_any y (by omega) h
      have hs0 := nm_size k (by omega)
      have hd0 := digs_len y (by omega)
      have hd1 := size_mk (digs y)
      generalize nm k = s at *
      generalize (⟨(digs y).toArray⟩ : ByteArray) = t at *
      have hz1 : ¬ 9223372036854775807 < s.size + 1 := by omega
      have hz2 : ¬ 9223372036854775807 < (s ++ (⟨#[32]⟩ : ByteArray)).size + t.size := by
        rw [ByteArray.size_append]
        have : (⟨#[32]⟩ : ByteArray).size = 1 := rfl
        omega
      have hz3 : ¬ 9223372036854775807 < s.size + 1 + t.size := by omega
      clear hs0 hd0 hd1
      go_enter Tryd.func24, Tryd.ntmps24
      go_upto_region 4 with (first | (go_at_call 29; with_reducible refine (F _).mono ?_; rintro e w1 ⟨rfl, G1⟩; have S1 := Lib.hid (S0.out.on (Grown.gw G1)); have d0 := S1.out.c0; have d1 := S1.out.c1; simp only at d0 d1) | (go_at_call 33; with_reducible refine (FH _).mono ?_; rintro e w2 ⟨rfl, G2⟩; have S2 := Lib.hid (S1.out.on (Grown.gw G2))))
      have k0 : ∀ n : InP (SW W W.heap.size ((k : Int), (y : Int))), n.val.cell? ⟨W.heap.size, 0, none⟩ = some (.int .i64 k) := fun n => n.ok.c0
      have k1 : ∀ n : InP (SW W W.heap.size ((k : Int), (y : Int))), n.val.cell? ⟨W.heap.size, 1, none⟩ = some (.int .i64 y) := fun n => n.ok.c1
      have hne : Nonempty (InP (SW W W.heap.size ((k : Int), (y : Int)))) := ⟨⟨_, S2.out⟩⟩
      refine region_p (S := SW W W.heap.size ((k : Int), (y : Int))) (by kernel_rfl) (by kernel_rfl) (S2.out.on (Gw.refl _).drew) ?_
      repeat (go_big_quiet_step (first | exact toG (fun a b h g => SW.on h g) (HI (SW.tb (InP.ok _))) | exact toP (fun a b h g => SW.on h (Grown.gw g)) (FN _)))
      refine wpQuiet_nil ?_
      intro _ hw'
      obtain ⟨nq, rfl⟩ := hw'
      go_wp2
      go_ret
      exact ⟨rfl, nq.ok.gw⟩
    · have hw : wd ((k : Int), (y : Int)) = nm k := by
        unfold wd; rw [hok, if_pos rfl]; simp only [Int.toNat_natCast]; rw [if_neg hms]
      rw [hw]
      rw [decide_eq_false hms] at FH
      have S0 := Lib.hid S0
      have c0 := S0.out.c0
      have c1 := S0.out.c1
      simp only at c0 c1 F
      clear hok hw hms
      go_enter Tryd.func24, Tryd.ntmps24
      go_wp2_with (first | (go_at_call 29; with_reducible refine (F _).mono ?_; rintro e w1 ⟨rfl, G1⟩; have S1 := Lib.hid (S0.out.on (Grown.gw G1)); have d0 := S1.out.c0; have d1 := S1.out.c1; simp only at d0 d1) | (go_at_call 33; with_reducible refine (FH _).mono ?_; rintro e w2 ⟨rfl, G2⟩; have S2 := Lib.hid (S1.out.on (Grown.gw G2)); have e0 := S2.out.c0; have e1 := S2.out.c1; simp only at e0 e1) | (go_at_call 34; with_reducible refine (FN _).mono ?_; rintro e w3 ⟨rfl, G3⟩))
      go_ret
      exact ⟨rfl, S2.out.gw.trans (Grown.gw G3)⟩
end Go.Proofs.YtcecmkelefhaaaaDoor
