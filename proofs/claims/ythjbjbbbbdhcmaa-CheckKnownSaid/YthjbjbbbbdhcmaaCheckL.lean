/-
  stepsOf of package check: what each instruction takes and gives, and where a run may go on behind it.
-/
import Derived.Test.YthjbjbbbbdhcmaaCheckK
namespace Go.Proofs.Ythjbjbbbbdhcmaa
open Go.ChangeShapes Go.WideShapes Go.ChangeAt Go.RowKit Go.Joins
set_option linter.unusedVariables false

theorem box3 {W : World} {g : Nat} {t : TypeId} {a b c : Value} (h : Has W g t #[a, b, c]) : W.cell? ⟨g, 0, none⟩ = some a ∧ W.cell? ⟨g, 1, none⟩ = some b ∧ W.cell? ⟨g, 2, none⟩ = some c ∧ W.frozen? ⟨g, 0, none⟩ = false ∧ W.frozen? ⟨g, 1, none⟩ = false ∧ W.frozen? ⟨g, 2, none⟩ = false := ⟨h.cell 0, h.cell 1, h.cell 2, h.free 0, h.free 1, h.free 2⟩
theorem put3 {wi w : World} {b : Nat} {t q : Int} (h : Has w b 66 #[.int .i64 0, .int .i64 0, .slice none 0 0]) (G : Gw wi w) (hb : wi.heap.size ≤ b) :
    Has (((w.setCell ⟨b, 0, none⟩ (.int .i64 t)).setCell ⟨b, 1, none⟩ (.int .i64 q)).setCell ⟨b, 2, none⟩ (.slice none 0 0)) b 66 #[.int .i64 t, .int .i64 q, .slice none 0 0] ∧ Gw wi (((w.setCell ⟨b, 0, none⟩ (.int .i64 t)).setCell ⟨b, 1, none⟩ (.int .i64 q)).setCell ⟨b, 2, none⟩ (.slice none 0 0)) :=
  ⟨((h.put 0 (.int .i64 t)).put 1 (.int .i64 q)).put 2 (.slice none 0 0), (((But.set b _ _ _).trans (But.set b _ _ _)).trans (But.set b _ _ _)).gw G hb⟩
/-- Where a run may go on behind instruction i. -/
def nxt (x : Int × Int) (i : Nat) : List Int := (if jumpsB x.1 = true then [x.2] else []) ++ (if endsB x.1 = true then [] else [(i : Int) + 1])
theorem nxt_len (x : Int × Int) (i : Nat) : (nxt x i).length ≤ 2 := by unfold nxt; split <;> split <;> simp
/-- The steps of the first m instructions, in a row of n. -/
structure StepsAt (w : World) (g n m : Nat) (L : List (Int × Int)) : Prop where
  blk : ∃ cs, Has w g 66 cs ∧ cs.size = n * 3
  at' : ∀ i x, i < m → L[i]? = some x → ∃ v, w.cell? ⟨g, i * 3, none⟩ = some (.int .i64 (tkx x)) ∧ w.cell? ⟨g, i * 3 + 1, none⟩ = some (.int .i64 (gvx x)) ∧ w.cell? ⟨g, i * 3 + 2, none⟩ = some v ∧ w.ownsRow (g + 1) 3 1 v (nxt x i).length (i64s (nxt x i))
theorem StepsAt.lt {w : World} {g n m : Nat} {L : List (Int × Int)} (h : StepsAt w g n m L) : g < w.heap.size := by
  obtain ⟨cs, h1, _⟩ := h.blk
  exact h1.lt
theorem StepsAt.on {w w' : World} {g n m : Nat} {L : List (Int × Int)} (h : StepsAt w g n m L) (k : Gw w w') : StepsAt w' g n m L := by
  refine ⟨?_, fun i x hi hx => ?_⟩
  · obtain ⟨cs, h1, h2⟩ := h.blk
    exact ⟨cs, h1.on k, h2⟩
  · obtain ⟨v, h1, h2, h3, h4⟩ := h.at' i x hi hx
    exact ⟨v, k.cell h1, k.cell h2, k.cell h3, own_keep h4 fun b _ hb => k.block b hb⟩
theorem StepsAt.put {w : World} {g n m : Nat} {L : List (Int × Int)} (h : StepsAt w g n m L) {x : Int × Int} {v : Value} (hx : L[m]? = some x) (hm : m < n) (hv : w.ownsRow (g + 1) 3 1 v (nxt x m).length (i64s (nxt x m))) :
    StepsAt (((w.setCell ⟨g, m * 3, none⟩ (.int .i64 (tkx x))).setCell ⟨g, m * 3 + 1, none⟩ (.int .i64 (gvx x))).setCell ⟨g, m * 3 + 2, none⟩ v) g n (m + 1) L := by
  obtain ⟨cs, h1, h2⟩ := h.blk
  have p1 := ((h1.put (m * 3) (.int .i64 (tkx x))).put (m * 3 + 1) (.int .i64 (gvx x))).put (m * 3 + 2) v
  have B : But g w (((w.setCell ⟨g, m * 3, none⟩ (.int .i64 (tkx x))).setCell ⟨g, m * 3 + 1, none⟩ (.int .i64 (gvx x))).setCell ⟨g, m * 3 + 2, none⟩ v) := ((But.set g _ _ _).trans (But.set g _ _ _)).trans (But.set g _ _ _)
  refine ⟨⟨_, p1, by simp [h2]⟩, fun i y hi hy => ?_⟩
  by_cases e : i = m
  · subst e
    rw [hx] at hy
    injection hy with hy
    subst hy
    refine ⟨v, ?_, ?_, ?_, own_keep hv fun b hb1 hb2 => B.block b hb2 (by omega)⟩
    · rw [p1.cell]; simp [Array.getElem?_setIfInBounds, h2]; omega
    · rw [p1.cell]; simp [Array.getElem?_setIfInBounds, h2]; omega
    · rw [p1.cell]; simp [Array.getElem?_setIfInBounds, h2]; omega
  · obtain ⟨u, k1, k2, k3, k4⟩ := h.at' i y (by omega) hy
    rw [h1.cell] at k1 k2 k3
    refine ⟨u, ?_, ?_, ?_, own_keep k4 fun b hb1 hb2 => B.block b hb2 (by omega)⟩
    · rw [p1.cell, ← k1]; simp only [Array.getElem?_setIfInBounds]; rw [if_neg (by omega), if_neg (by omega), if_neg (by omega)]
    · rw [p1.cell, ← k2]; simp only [Array.getElem?_setIfInBounds]; rw [if_neg (by omega), if_neg (by omega), if_neg (by omega)]
    · rw [p1.cell, ← k3]; simp only [Array.getElem?_setIfInBounds]; rw [if_neg (by omega), if_neg (by omega), if_neg (by omega)]
theorem StepsAt.room {w : World} {g n m : Nat} {L : List (Int × Int)} (h : StepsAt w g n m L) {k : Nat} (hk : k < n) : ∃ a b c, (w.cell? ⟨g, k * 3, none⟩ = some a ∧ w.cell? ⟨g, k * 3 + 1, none⟩ = some b ∧ w.cell? ⟨g, k * 3 + 2, none⟩ = some c) ∧ w.frozen? ⟨g, k * 3, none⟩ = false ∧ w.frozen? ⟨g, k * 3 + 1, none⟩ = false ∧ w.frozen? ⟨g, k * 3 + 2, none⟩ = false := by
  obtain ⟨cs, h1, h2⟩ := h.blk
  refine ⟨_, _, _, ⟨(h1.cell _).trans (Array.getElem?_eq_getElem (by omega)), (h1.cell _).trans (Array.getElem?_eq_getElem (by omega)), (h1.cell _).trans (Array.getElem?_eq_getElem (by omega))⟩, h1.free _, h1.free _, h1.free _⟩
theorem own_base {w : World} {b B : Nat} {e : TypeId} {size n : Nat} {v : Value} {xs : List Value} (h : w.ownsRow B e size v n xs) (k : b ≤ B) : w.ownsRow b e size v n xs := by
  refine ⟨h.1, ?_⟩
  rcases h.2 with h0 | ⟨g, cap, cur, h0, h1, h2, h3⟩
  · exact .inl h0
  · exact .inr ⟨g, cap, cur, h0, Nat.le_trans k h1, h2, h3⟩
/-- One step under way: block sb holds it; its row of ways on is the call's own, in blocks from B on. -/
structure CutS (w0 w : World) (sb B : Nat) (t q : Int) (v : Value) (l : List Int) : Prop where
  gw : Gw w0 w
  s : Has w sb 66 #[.int .i64 t, .int .i64 q, v]
  le : B ≤ w.heap.size
  lt : sb < B
  ge : w0.heap.size ≤ sb
  own : w.ownsRow B 3 1 v l.length (i64s l)
theorem CutS.more {w0 w wm wp : World} {sb B : Nat} {t q y : Int} {v v' : Value} {l : List Int} (h : CutS w0 w sb B t q v l) (ha : Gw w wm) (ho : wp.ownsRow B 3 1 v' (l.length + 1) (i64s l ++ [.int .i64 y])) (hg : wm.grownBy wp v.ownBlock) : CutS w0 (wp.setCell ⟨sb, 2, none⟩ v') sb B t q v' (l ++ [y]) := by
  have hr : ∀ k, v.ownBlock = some k → B ≤ k := fun k hk => by
    rcases h.own.2 with ⟨h0, _⟩ | ⟨b, c, cur, h0, hb, _⟩
    · rw [h0] at hk; simp [Value.ownBlock] at hk
    · rw [h0] at hk; simp [Value.ownBlock] at hk; omega
  have g1 : Gw w0 wp := (h.gw.trans ha).grown hg fun k hk => by have := hr k hk; have := h.ge; have := h.lt; omega
  have hs : Has wp sb 66 #[.int .i64 t, .int .i64 q, v] := (h.s.on ha).same (hg.block sb (h.s.on ha).lt fun e => by have := hr sb e.symm; have := h.lt; omega)
  refine ⟨(But.set sb _ _ _).gw g1 h.ge, ?_, ?_, h.lt, h.ge, ?_⟩
  · have := hs.put 2 v'
    exact this
  · have e1 := ha.size
    have e2 := hg.size
    have e3 := h.le
    have e4 : (wp.setCell ⟨sb, 2, none⟩ v').heap.size = wp.heap.size := by simp
    omega
  · have e : i64s (l ++ [y]) = i64s l ++ [.int .i64 y] := by simp [i64s]
    rw [e, List.length_append]
    exact own_keep ho fun b hb1 hb2 => (But.set sb wp 2 v').block b hb2 (by have := h.lt; omega)
theorem CutS.own_on {w0 w w' : World} {sb B : Nat} {t q : Int} {v : Value} {l : List Int} (h : CutS w0 w sb B t q v l) (k : Gw w w') : w'.ownsRow B 3 1 v l.length (i64s l) := own_keep h.own fun b _ hb => k.block b hb
theorem CutS.keep {w0 w wm wp : World} {sb B : Nat} {t q : Int} {v : Value} {l : List Int} (h : CutS w0 w sb B t q v l) (ha : Gw w wm) (hg : wm.grownBy wp v.ownBlock) : Has wp sb 66 #[.int .i64 t, .int .i64 q, v] :=
  (h.s.on ha).same (hg.block sb (h.s.on ha).lt fun e => by
    rcases h.own.2 with ⟨h0, _⟩ | ⟨b, c, cur, h0, hb, _⟩
    · rw [h0] at e; simp [Value.ownBlock] at e
    · rw [h0] at e; simp [Value.ownBlock] at e; have := h.lt; omega)
theorem infoI : (Try.prog.info? 3).map (fun i => (i.zero, i.size, i.bytes)) = some (some (.int .i64 0), 1, 8) := by kernel_rfl
theorem info_int : ∃ i, Try.prog.info? 3 = some i ∧ i.zero = some (.int .i64 0) ∧ i.size = 1 ∧ i.bytes = 8 := by
  have h := infoI
  cases hi : Try.prog.info? 3 with
  | none => rw [hi] at h; simp at h
  | some i =>
    rw [hi] at h
    simp only [Option.map_some, Option.some.injEq, Prod.mk.injEq] at h
    exact ⟨i, rfl, h.1, h.2.1, h.2.2⟩
theorem infoStep : (Try.prog.info? 66).map (fun i => (i.zero, i.size, i.bytes)) = some (some (.agg #[.int .i64 0, .int .i64 0, .slice none 0 0]), 3, 40) := by kernel_rfl
theorem make_steps (n : Nat) (hn : n ≤ 1000) (w : World) : (Instr.makeSlice 61 (.int .i64 (n : Int)) (.int .i64 (n : Int))).run Try.prog w = .ok (.slice (some ⟨w.heap.size, 0, none⟩) n n) (w.alloc (.cells (madeCells #[.int .i64 0, .int .i64 0, .slice none 0 0] (n * 3)) 66)) := by
  have h := infoStep
  cases hi : Try.prog.info? 66 with
  | none => rw [hi] at h; simp at h
  | some i =>
    rw [hi] at h
    simp only [Option.map_some, Option.some.injEq, Prod.mk.injEq] at h
    have k := run_make (P := Try.prog) w 61 66 i _ Try.underlying61 hi h.1 .i64 .i64 (n : Int) (n : Int) (by omega) (Int.le_refl _) (by rw [h.2.2]; omega) (by omega)
    rw [h.2.1, show (Value.agg #[.int .i64 0, .int .i64 0, .slice none 0 0]).cells = #[.int .i64 0, .int .i64 0, .slice none 0 0] from rfl] at k
    simpa using k
theorem takes_x {x : Int × Int} (h : okI x = true) (W : World) : Calls Try.prog 31 #[.int .i64 x.1] W fun e W' => e = .returned (.int .i64 (tkx x)) ∧ Gw W W' := by
  obtain ⟨p1, p2, _, _⟩ := okI_bd h
  obtain ⟨op, a⟩ := x
  simp only at p1 p2
  obtain ⟨k, rfl⟩ : ∃ k : Nat, op = k := ⟨op.toNat, by omega⟩
  exact (takes_yes k (by omega) (by omega) W).mono fun e w' ⟨h1, h2⟩ => ⟨by rw [h1]; rfl, Grown.gw h2⟩
theorem gives_x {x : Int × Int} (h : okI x = true) (W : World) : Calls Try.prog 32 #[.int .i64 x.1] W fun e W' => e = .returned (.int .i64 (gvx x)) ∧ Gw W W' := by
  obtain ⟨p1, p2, _, _⟩ := okI_bd h
  obtain ⟨op, a⟩ := x
  simp only at p1 p2
  obtain ⟨k, rfl⟩ : ∃ k : Nat, op = k := ⟨op.toNat, by omega⟩
  exact (gives_yes k (by omega) (by omega) W).mono fun e w' ⟨h1, h2⟩ => ⟨by rw [h1]; rfl, Grown.gw h2⟩
theorem CutS.shape {w0 w : World} {sb B : Nat} {t q : Int} {v : Value} {l : List Int} (h : CutS w0 w sb B t q v l) : ∃ A cap, v = .slice A l.length cap := by
  rcases h.own.2 with ⟨h0, h1⟩ | ⟨b, c, cur, h0, hb, _⟩
  · have : l = [] := by simpa [i64s] using h1
    exact ⟨none, 0, by rw [h0, this]; rfl⟩
  · exact ⟨_, _, h0⟩
/-- One more step stands in the row. -/
theorem CutS.done {W wr wi w : World} {sb B n k : Nat} {L : List (Int × Int)} {x : Int × Int} {v : Value} {l : List Int} (c : CutS wi w sb B (tkx x) (gvx x) v l) (s : StepsAt wr W.heap.size n k L) (gi : Gw wr wi) (gW : Gw W wr) (hx : L[k]? = some x) (hk : k < n) (hl : l = nxt x k) :
    StepsAt (((w.setCell ⟨W.heap.size, k * 3, none⟩ (.int .i64 (tkx x))).setCell ⟨W.heap.size, k * 3 + 1, none⟩ (.int .i64 (gvx x))).setCell ⟨W.heap.size, k * 3 + 2, none⟩ v) W.heap.size n (k + 1) L ∧ Gw W (((w.setCell ⟨W.heap.size, k * 3, none⟩ (.int .i64 (tkx x))).setCell ⟨W.heap.size, k * 3 + 1, none⟩ (.int .i64 (gvx x))).setCell ⟨W.heap.size, k * 3 + 2, none⟩ v) := by
  subst hl
  have h1 := s.lt
  have h2 := gi.size
  have h3 := c.ge
  have h4 := c.lt
  exact ⟨(s.on (gi.trans c.gw)).put hx hk (own_base c.own (by omega)), (((But.set _ _ _ _).trans (But.set _ _ _ _)).trans (But.set _ _ _ _)).gw (gW.trans (gi.trans c.gw)) (Nat.le_refl _)⟩
end Go.Proofs.Ythjbjbbbbdhcmaa
