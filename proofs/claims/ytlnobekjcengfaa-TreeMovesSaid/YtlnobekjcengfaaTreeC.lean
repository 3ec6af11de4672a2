/-
  The document's own tree: Copy; Drop.
-/
import Derived.Test.YtlnobekjcengfaaTreeW
import Derived.Test.YtlnobekjcengfaaTreeF
namespace Go.Proofs.Ytlnobekjcengfaa
open Go.ChangeShapes Go.WideShapes Go.ChangeAt Go.RowKit Go.Joins
set_option linter.unusedVariables false
set_option linter.unusedSimpArgs false

/-- A tree of its own. -/
structure RNew (B : Nat) (W : World) (v : Value) (s : St) (W' : World) : Prop where
  gw : Gw W W'
  ex : ∃ g sl, v = .pointer (some ⟨g, 0, none⟩) ∧ RT B W' g sl s ∧ W.heap.size ≤ g ∧ ∀ b, sl.ownBlock = some b → W.heap.size ≤ b
theorem copy_end {B : Nat} {W p1 : World} {v1 : Value} {s : St} (hB : B ≤ W.heap.size) (gr1 : W.drew.grownBy p1 (Value.slice none 0 0).ownBlock) (at1 : v1.ownBlock = (Value.slice none 0 0).ownBlock ∨ v1.ownBlock = some W.drew.heap.size)
    (own1 : p1.ownsRow B 72 3 v1 s.l.length (iCs s.l)) (hl : s.l.length ≤ 8) : RNew B W (.pointer (some ⟨p1.heap.size, 0, none⟩)) s (p1.alloc (.cells #[v1, .int .i64 s.nx] 39)) := by
  have z1 : W.heap.size ≤ p1.heap.size := gr1.size
  have hv : ∀ b, v1.ownBlock = some b → b = W.heap.size := fun b hb => nil_own (w := W) at1 b hb
  have G1 : Gw W p1 := ⟨gr1.os, rfl, gr1.output, gr1.size, fun k hk => gr1.block k hk (by simp [Value.ownBlock])⟩
  have hlt : ∀ b, v1.ownBlock = some b → b < p1.heap.size := fun b hb => by
    rcases own1.2 with ⟨h0, _⟩ | ⟨g', cap, cur, h0, h1, h2, _⟩
    · rw [h0] at hb; cases hb
    · rw [h0] at hb; cases hb; exact lt_of_heap h2
  refine ⟨G1.trans (Gw.alloc _ _), p1.heap.size, v1, rfl, ⟨Has.new p1 _ _, own_keep own1 (fun b _ hb => Below.heap_alloc p1 _ b hb), fun e => by have := hlt _ e; omega, by omega, hl⟩, z1, fun b hb => by have := hv b hb; omega⟩
set_option maxRecDepth 100000 in
set_option maxHeartbeats 4000000 in
theorem copy_any {B : Nat} {W : World} {g : Nat} {sl : Value} {s : St} (h : RT B W g sl s) : Calls Try.prog 14 #[.pointer (some ⟨g, 0, none⟩)] W fun e W' => ∃ v, e = .returned v ∧ RNew B W v s W' := by
  obtain ⟨i0, hi1, hi2, hi3, hi4⟩ := info_item
  have HI := Lib.hid (And.intro hi1 (And.intro hi2 (And.intro hi3 hi4)))
  have c0 := (box0 h.hd).1
  have c1 := (box1 h.hd).1
  have hl8 := h.len
  have hgl : Hid (g < W.heap.size) := h.hd.lt
  have HBw : Hid (B ≤ W.heap.size) := Nat.le_trans h.hB (Nat.le_of_lt h.hd.lt)
  have hm8 : Hid (maxLen = 9223372036854775807) := rfl
  rcases h.sl.form with ⟨rfl, hn⟩ | ⟨r, cap, rfl, hcap, hcm, hc⟩
  · have HE : Hid (RNew B W (.pointer (some ⟨W.heap.size, 0, none⟩)) s ((W.drew).alloc (.cells #[.slice none 0 0, .int .i64 s.nx] 39))) := copy_end (p1 := W.drew) HBw.out ⟨rfl, rfl, rfl, Nat.le_refl _, fun _ _ _ => rfl⟩ (.inl rfl) (by rw [hn]; exact World.ownsRow_nil _ B _ 3) (by rw [hn]; simp)
    clear hi1 hi2 hi3 hi4 h hn
    go_enter Try.func14, Try.ntmps14
    go_upto_region 1 with fail
    go_region
    go_wp2
    go_ret
    exact ⟨_, rfl, HE.out⟩
  · have N1 : Hid (∀ j u, (iCs s.l)[j]? = some u → W.cell? ((⟨r, 0, none⟩ : Addr).add j) = some u) := fun j u hj => by rw [add_eq, Nat.zero_add]; exact h.cells hj
    have L1 : Hid ((iCs s.l).length = s.l.length * 3) := iCs_len _
    clear hi1 hi2 hi3 hi4 h hc
    go_enter Try.func14, Try.ntmps14
    go_upto_region 1 with fail
    go_region_law (refine step_append_own _ (by rfl) _ _ _ (by rfl) B 72 i0 _ 3 32 Try.underlying37 HI.out.1 HI.out.2.1 HI.out.2.2.1 HI.out.2.2.2 rfl (by omega) (.slice none 0 0) 0 [] (by rfl) (World.ownsRow_nil _ B _ 3) ⟨r, 0, none⟩ s.l.length cap (iCs s.l) (by rfl) L1.out N1.out iC_one (by have := hm8.out; omega) (by omega) HBw.out ?_; intro v1 p1 own1 gr1 at1; have cp : p1.cell? ⟨g, 1, none⟩ = some (.int .i64 s.nx) := (World.cell?_of_block (gr1.block g hgl.out (by simp [Value.ownBlock]))).trans c1; obtain ⟨A2, m2, c2, rfl⟩ := own_form own1)
    all_goals (
      go_wp2
      go_ret
      exact ⟨_, rfl, copy_end HBw.out gr1 at1 (by have := own1; rw [Nat.zero_add] at this; exact this) hl8⟩)
end Go.Proofs.Ytlnobekjcengfaa
