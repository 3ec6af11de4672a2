/-
  A fails whose head holds a slice of its own and how many were asked.
-/
import Derived.Test.YtcndclohbpediaaFailA
import Derived.Deep.DeepCutAuto
namespace Go.Proofs.Ytcndclohbpediaa
open Go.ChangeShapes Go.WideShapes Go.ChangeAt Go.RowKit Go.Joins
set_option linter.unusedVariables false
set_option linter.unusedSimpArgs false

theorem Gw.drewF {a w : World} (h : Gw a w) (n : Nat) : Gw a (w.drewN n) := ⟨h.os, rfl, h.output, h.size, h.block⟩
structure FTat (F : Nat → Prop) (W : World) (p : Nat) (A : Option Addr) (cap : Nat) (l : List Bool) (i : Nat) : Prop where
  fp : F p
  lt : ∀ k, F k → k < W.heap.size
  hd : Has W p 33 #[.slice A l.length cap, .int .i64 (i : Int)]
  le : i ≤ l.length
  sm : l.length ≤ 1000
  cp : l.length ≤ cap ∧ cap ≤ 9223372036854775807
  row : ∀ (j : Nat) b, l[j]? = some b → ∃ g off, A = some ⟨g, off, none⟩ ∧ F g ∧ g ≠ p ∧ W.cell? ⟨g, off + j, none⟩ = some (.bool b)
def FTT : FlP := fun F W v l i => ∃ p A cap, v = .pointer (some ⟨p, 0, none⟩) ∧ FTat F W p A cap l i
theorem FTat.same {F : Nat → Prop} {W W' : World} {p : Nat} {A : Option Addr} {cap : Nat} {l : List Bool} {i : Nat} (h : FTat F W p A cap l i) (e : ∀ k, F k → W'.heap[k]? = W.heap[k]?) : FTat F W' p A cap l i where
  fp := h.fp
  lt := fun k hk => by
    have h1 := e k hk
    rw [Array.getElem?_eq_getElem (h.lt k hk)] at h1
    exact (Array.getElem?_eq_some_iff.1 h1).1
  hd := h.hd.same (e p h.fp)
  le := h.le
  sm := h.sm
  cp := h.cp
  row := fun j b hb => by
    obtain ⟨g, off, a, f, n, c⟩ := h.row j b hb
    exact ⟨g, off, a, f, n, (World.cell?_of_block (e g f)).trans c⟩
theorem FTat.gw {F : Nat → Prop} {W W' : World} {p : Nat} {A : Option Addr} {cap : Nat} {l : List Bool} {i : Nat} (h : FTat F W p A cap l i) (G : Gw W W') : FTat F W' p A cap l i := h.same fun k hk => G.block k (h.lt k hk)
theorem FTat.kept {F : Nat → Prop} {W W' : World} {p : Nat} {A : Option Addr} {cap : Nat} {l : List Bool} {i : Nat} (h : FTat F W p A cap l i) (G : Gw W W') : Kpl FTT F (.pointer (some ⟨p, 0, none⟩)) l i W W' :=
  ⟨⟨G.os, G.output, G.size, fun k hk _ => G.block k hk⟩, F, ⟨p, A, cap, rfl, h.gw G⟩, fun k hk => .inl hk⟩
theorem FTat.step {F : Nat → Prop} {W W' : World} {p : Nat} {A : Option Addr} {cap : Nat} {l : List Bool} {i : Nat} (h : FTat F W p A cap l i) (G : Gw W W') (hi : i < l.length) : Kpl FTT F (.pointer (some ⟨p, 0, none⟩)) l (i + 1) W (W'.setCell ⟨p, 1, none⟩ (.int .i64 ((i : Int) + 1))) := by
  have h' := h.gw G
  have ot : ∀ k, k ≠ p → (W'.setCell ⟨p, 1, none⟩ (.int .i64 ((i : Int) + 1))).heap[k]? = W'.heap[k]? := fun k hk => heap_setCell_other W' ⟨p, 1, none⟩ k _ hk
  refine ⟨⟨G.os, G.output, by rw [World.size_setCell]; exact G.size, fun k hk hf => (ot k (fun e => hf (e ▸ h.fp))).trans (G.block k hk)⟩, F, ⟨p, A, cap, rfl, h.fp, fun k hk => by rw [World.size_setCell]; exact h'.lt k hk, h'.hd.put 1 _, hi, h.sm, h.cp, fun j b hb => ?_⟩, fun k hk => .inl hk⟩
  obtain ⟨g, off, a, f, n, c⟩ := h'.row j b hb
  exact ⟨g, off, a, f, n, (World.cell?_of_block (ot g n)).trans c⟩
set_option maxRecDepth 100000 in
set_option maxHeartbeats 2000000 in
theorem ftt_used {F : Nat → Prop} {W : World} {v : Value} {l : List Bool} {i : Nat} (h : FTT F W v l i) : Calls Try.prog 9 #[v] W fun e W' => e = .returned (.int .i64 (i : Int)) ∧ Kpl FTT F v l i W W' := by
  obtain ⟨p, A, cap, rfl, h⟩ := h
  have c1 : W.cell? ⟨p, 1, none⟩ = some (.int .i64 (i : Int)) := h.hd.cell 1
  have HH := Lib.hid h
  clear h
  go_enter Try.func9, Try.ntmps9
  go_wp2
  go_ret
  exact ⟨rfl, HH.out.kept (Gw.refl _)⟩
set_option maxRecDepth 100000 in
set_option maxHeartbeats 2000000 in
theorem ftt_next {F : Nat → Prop} {W : World} {v : Value} {l : List Bool} {i : Nat} (h : FTT F W v l i) : Calls Try.prog 8 #[v] W fun e W' => e = .returned (.bool (l[i]?.getD false)) ∧ Kpl FTT F v l (min (i + 1) l.length) W W' := by
  obtain ⟨p, A, cap, rfl, h⟩ := h
  have c0 : W.cell? ⟨p, 0, none⟩ = some (.slice A l.length cap) := h.hd.cell 0
  have c1 : W.cell? ⟨p, 1, none⟩ = some (.int .i64 (i : Int)) := h.hd.cell 1
  have f1 : W.frozen? ⟨p, 1, none⟩ = false := h.hd.free 1
  have HH := Lib.hid h
  by_cases hi : i < l.length
  · have t1 : ((i : Int) == (l.length : Int)) = false := by
      rw [beq_eq_false_iff_ne]
      omega
    have H62 : Hid ((i : Int) + 1 ≤ 9223372036854775807) := Lib.hid (by have := h.sm; omega)
    obtain ⟨b, hb⟩ : ∃ b, l[i]? = some b := ⟨_, List.getElem?_eq_getElem hi⟩
    obtain ⟨g, off, rfl, _, hg, c⟩ := h.row i b hb
    have HS : ∀ W', Gw W W' → Kpl FTT F (.pointer (some ⟨p, 0, none⟩)) l (i + 1) W (W'.setCell ⟨p, 1, none⟩ (.int .i64 ((i : Int) + 1))) := fun W' G => HH.out.step G hi
    rw [hb, Nat.min_eq_left hi]
    replace HS := Lib.hid HS
    have HC : Hid (∀ W', Gw W W' → (W'.setCell ⟨p, 1, none⟩ (.int .i64 ((i : Int) + 1))).cell? ⟨p, 0, none⟩ = some (.slice (some ⟨g, off, none⟩) l.length cap) ∧ (W'.setCell ⟨p, 1, none⟩ (.int .i64 ((i : Int) + 1))).cell? ⟨p, 1, none⟩ = some (.int .i64 ((i : Int) + 1)) ∧ (W'.setCell ⟨p, 1, none⟩ (.int .i64 ((i : Int) + 1))).cell? ⟨g, off + i, none⟩ = some (.bool b)) := Lib.hid fun W' G => by
      have h' := (h.gw G).hd.put 1 (.int .i64 ((i : Int) + 1))
      exact ⟨h'.cell 0, h'.cell 1, (World.cell?_of_block (heap_setCell_other W' ⟨p, 1, none⟩ g _ hg)).trans (G.cell c)⟩
    clear h hb c
    go_enter Try.func8, Try.ntmps8
    go_wp2
    go_quiet (fail)
    have h62 := H62.out
    go_wp2
    obtain ⟨k0, k1, kc⟩ := HC.out (W.drewN nq) (Gw.drewF (Gw.refl W) nq)
    have h63 : IntKind.i64.wrap (i : Int) = (i : Int) := wrap_in (by omega) (by omega)
    go_quiet (fail)
    go_wp2
    go_ret
    exact ⟨rfl, HS.out _ (Gw.drewF (Gw.drewF (Gw.refl _) _) _)⟩
  · have t1 : ((i : Int) == (l.length : Int)) = true := by
      have := h.le
      rw [beq_iff_eq]
      omega
    have e1 := h.le
    obtain rfl : i = l.length := by omega
    rw [List.getElem?_eq_none (Nat.le_refl _), Nat.min_eq_right (by omega)]
    clear h
    go_enter Try.func8, Try.ntmps8
    go_wp2
    go_quiet (fail)
    go_wp2
    go_ret
    exact ⟨rfl, HH.out.kept (Gw.drewF (Gw.refl _) _)⟩
theorem countP_stepF {l : List Bool} {i : Nat} {b : Bool} (h : l[i]? = some b) : (l.take (i + 1)).countP (fun b => b) = (l.take i).countP (fun b => b) + (if b = true then 1 else 0) := by
  rw [List.take_add_one, h, List.countP_append]
  cases b <;> rfl
set_option maxRecDepth 100000 in
set_option maxHeartbeats 4000000 in
theorem ftrues_any {W : World} {x : Value} {l : List Bool} (hx : BlA W x l) (hl : l.length ≤ 1000) : Calls Try.prog 12 #[x] W fun e W' => e = .returned (.int .i64 (l.countP (fun b => b) : Nat)) ∧ Gw W W' := by
  obtain ⟨A, ca, rfl, _, _, hA⟩ := hx
  have HA := Lib.hid hA
  have HL := Lib.hid hl
  clear hA hl
  go_enter Try.func12, Try.ntmps12
  go_wp2_with fail
  go_loopw [3, 8] (fun xm xi wr => ∃ q i : Nat, xm = .int .i64 (q : Int) ∧ xi = .int .i64 (i : Int) ∧ i ≤ l.length ∧ Hid (q = (l.take i).countP (fun b => b)) ∧ Hid (q ≤ i) ∧ Hid (Gw W wr)) (fun _ xi _ => l.length - (intOf xi).toNat)
  case atStart => exact ⟨0, 0, rfl, rfl, Nat.zero_le _, Lib.hid rfl, Lib.hid (Nat.le_refl _), Lib.hid (Gw.refl _)⟩
  case round =>
    obtain ⟨q, i, rfl, rfl, hi, hq, hqi, HG⟩ := hrel
    by_cases hlt : i < l.length
    · have h62 : (i : Int) + 1 ≤ 9223372036854775807 := by have := HL.out; omega
      have h62m : (q : Int) + 1 ≤ 9223372036854775807 := by have := hqi.out; omega
      obtain ⟨b, hb⟩ : ∃ b, l[i]? = some b := ⟨_, List.getElem?_eq_getElem hlt⟩
      obtain ⟨g, o, rfl, cc⟩ := HA.out i b hb
      have cc := HG.out.cell cc
      have hc := Lib.hid (countP_stepF hb)
      clear hb
      cases b with
      | true =>
        go_wp2_with fail
        go_roundw
        case rel => exact ⟨q + 1, i + 1, by go_num, by go_num, by omega, Lib.hid (by rw [hc.out, if_pos rfl, ← hq.out]), Lib.hid (by have := hqi.out; omega), HG⟩
        case measure => simp [intOf]; omega
      | false =>
        go_wp2_with fail
        go_roundw
        case rel => exact ⟨q, i + 1, rfl, by go_num, by omega, Lib.hid (by rw [hc.out, if_neg (by decide), ← hq.out, Nat.add_zero]), Lib.hid (by have := hqi.out; omega), HG⟩
        case measure => simp [intOf]; omega
    · obtain rfl : l.length = i := by omega
      have hq' := hq.out
      rw [List.take_length] at hq'
      have HQ := Lib.hid hq'
      clear hlt hq hq' hqi
      go_wp2_with fail
      go_ret
      exact ⟨show _ = Ending.returned (.int .i64 ((l.countP (fun b => b) : Nat) : Int)) by rw [← HQ.out]; rfl, HG.out⟩
set_option maxRecDepth 100000 in
set_option maxHeartbeats 4000000 in
theorem fmay_any {W : World} {x : Value} {l : List Bool} (c m : Int) (hx : BlA W x l) (hl : l.length ≤ 1000) : Calls Try.prog 10 #[x, .int .i64 c, .int .i64 m] W fun e W' => e = .returned (.bool (mayF l c m)) ∧ Gw W W' := by
  have CT := ftrues_any hx hl
  obtain ⟨A, ca, rfl, _, _, hA⟩ := hx
  clear hA
  by_cases h : (l.length : Int) = c
  · subst h
    have t1 : ((l.length : Int) == (l.length : Int)) = true := beq_self_eq_true _
    by_cases h6 : (l.length : Int) ≤ 6
    · have t2 : decide ((l.length : Int) ≤ 6) = true := decide_eq_true h6
      have hr : mayF l (l.length : Int) m = decide ((l.countP (fun b => b) : Int) ≤ m) := by
        unfold mayF
        rw [decide_eq_true h6, decide_eq_true rfl, decide_eq_true (show (0 : Int) ≤ (l.length : Int) by omega)]
        rfl
      rw [hr]
      clear h6 hr hl
      go_enter Try.func10, Try.ntmps10
      go_wp2_with (go_at_call 12; (with_reducible refine CT.mono ?_); rintro e w1 ⟨rfl, G1⟩; replace G1 := Lib.hid G1; clear CT)
      go_ret
      exact ⟨rfl, G1.out⟩
    · have t2 : decide ((l.length : Int) ≤ 6) = false := decide_eq_false h6
      have hr : mayF l (l.length : Int) m = false := by
        unfold mayF
        rw [decide_eq_false h6, Bool.and_false, Bool.false_and, Bool.false_and]
      rw [hr]
      clear h6 hr hl CT
      go_enter Try.func10, Try.ntmps10
      go_wp2_with fail
      go_ret
      exact ⟨rfl, Gw.refl _⟩
  · have t1 : ((l.length : Int) == c) = false := by
      rw [beq_eq_false_iff_ne]
      exact h
    have hr : mayF l c m = false := by
      unfold mayF
      rw [decide_eq_false (show ¬ ((l.length : Int) = c) from h), Bool.and_false, Bool.false_and]
    rw [hr]
    clear h hr hl CT
    go_enter Try.func10, Try.ntmps10
    go_wp2_with fail
    go_ret
    exact ⟨rfl, Gw.refl _⟩
end Go.Proofs.Ytcndclohbpediaa
