/-
  Arguments of a law, opened: a slice of numbers, a slice of rows.
-/
import Derived.Test.YtgbmiphaabeodaaDoorTermX
import Derived.Test.YtgbmiphaabeodaaDoorTermB0
import Derived.ChangeSlices
import Derived.Deep.Slices
namespace Go.Proofs.YtgbmiphaabeodaaDoor
open Go.ChangeShapes Go.WideShapes Go.ChangeAt Go.RowKit
set_option linter.unusedVariables false

theorem laidOut : laidOutB Tryd.prog = true := by kernel_rfl
section
variable {H : Type} {enc : TypeId × Value → H} {P : Program} {W : World}
theorem slice_ok {base : Nat} {t e : TypeId} (ht : P.underlying t = some (.slice e)) {v : Value} (h : Value.okWide P W .any base t v) :
    v = .slice none 0 0 ∨ ∃ a len cap, v = .slice (some a) len cap ∧ len ≤ cap ∧ a.spot = none ∧ a.block < W.heap.size := by
  unfold Value.okWide at h
  rw [ht] at h
  simp only [Cell.okWide, ht] at h
  unfold Cell.ok at h
  rw [ht] at h
  split at h <;> first | (exact h.elim) | skip
  all_goals first | (simp at *; done) | skip
  all_goals rename_i hu
  all_goals first
    | exact .inl rfl
    | (obtain ⟨h1, _, _, hs, row, cells, hsh, _⟩ := h
       refine .inr ⟨_, _, _, rfl, h1, hs, ?_⟩
       unfold World.shape? at hsh
       split at hsh
       · rename_i hb; exact lt_of_heap hb
       · cases hsh)
/-- A value that is a slice of numbers of a kind. -/
def NumsIn (k : IntKind) (W : World) (v : Value) : Prop := ∃ (A : Option Addr) (zs : List Int) (cap : Nat), v = .slice A zs.length cap ∧ zs.length ≤ cap ∧ cap ≤ maxLen ∧
  (∀ a, A = some a → a.block < W.heap.size) ∧ (∀ (i : Nat) (z : Int), zs[i]? = some z → ∃ a, A = some a ∧ W.cell? (a.add i) = some (.int k z)) ∧ ∀ z ∈ zs, (Lit.int k z).wf = true
theorem nums_open {k : IntKind} {base : Nat} {t e : TypeId} (ht : P.underlying t = some (.slice e)) (he : P.underlying e = some (.int k)) (hc : P.cellsOf e = 1) {v : Value} {d : DataW H} {p : List MemPlace}
    (hok : Value.okWide P W .any base t v) (h : DataW.Trod enc P W 0 (fun _ => true) true t v d p) : NumsIn k W v := by
  rcases slice_ok ht hok with rfl | ⟨a, len, cap, rfl, hl, hs, hb⟩
  · exact ⟨none, [], 0, rfl, Nat.le_refl _, Nat.zero_le _, (fun a ha => by cases ha), (fun i z hz => by simp at hz), (fun z hz => by cases hz)⟩
  · obtain ⟨fuel, hf⟩ := h
    rcases open_ints ht he hc hf with ⟨h0, _⟩ | ⟨a', len', cap', zs, h1, _, hle, hm, hzl, _, hcell, hwf⟩
    · simp [Value.cells] at h0
    · simp only [Value.cells, List.cons.injEq, and_true] at h1
      injection h1 with h1 h2 h3
      injection h1 with h1
      subst h1; subst h2; subst h3
      rw [if_pos rfl] at hzl
      have hlen : (zs.take len).length = len := by rw [List.length_take]; omega
      refine ⟨some a, zs.take len, cap, by rw [hlen], by omega, hm, (fun a' ha => by injection ha with ha; subst ha; exact hb), fun i z hz => ⟨a, rfl, ?_⟩, fun z hz => hwf z (List.mem_of_mem_take hz)⟩
      have hi : i < len := by have := (List.getElem?_eq_some_iff.1 hz).1; omega
      rw [List.getElem?_take_of_lt hi] at hz
      rw [hcell i (by omega), List.getD_eq_getElem?_getD, hz]; rfl
/-- A value that is an assignment. -/
def EnvIn (W : World) (v : Value) : Prop := ∃ (A : Option Addr) (env : List Int) (cap : Nat), v = .slice A env.length cap ∧ env.length ≤ cap ∧ cap ≤ 9223372036854775807 ∧ EnvAt W A env
theorem env_open {base : Nat} {t e : TypeId} (ht : P.underlying t = some (.slice e)) (he : P.underlying e = some (.int .u16)) (hc : P.cellsOf e = 1) {v : Value} {d : DataW H} {p : List MemPlace}
    (hok : Value.okWide P W .any base t v) (h : DataW.Trod enc P W 0 (fun _ => true) true t v d p) : EnvIn W v := by
  obtain ⟨A, zs, cap, rfl, hl, hm, hb, hcell, hwf⟩ := nums_open ht he hc hok h
  unfold maxLen at hm
  exact ⟨A, zs, cap, rfl, hl, by omega, hcell, hb, fun v hv => bounds_u16 (hwf v hv), by omega⟩
end
theorem uRow : Tryd.prog.underlying 22 = some (.slice 35) := Tryd.underlying22
theorem cellsRow : Tryd.prog.cellsOf 35 = 6 := by kernel_rfl
theorem cellsU8 : Tryd.prog.cellsOf 5 = 1 := by kernel_rfl
/-- A value that is a slice of rows. -/
def RowsIn (W : World) (v : Value) : Prop := ∃ (A : Option Addr) (rs : List Rw) (cap : Nat), v = .slice A rs.length cap ∧ rs.length ≤ cap ∧ cap ≤ 9223372036854775807 ∧ (∀ a, A = some a → a.block < W.heap.size) ∧ RowsAt W A rs
set_option maxRecDepth 100000 in
theorem row_open {H : Type} {enc : TypeId × Value → H} {W : World} {n : Nat} {cs : List Value} {x : DataW H × List MemPlace} (h : DataW.trod enc Tryd.prog W 0 (fun _ => true) true n 35 cs = some x) :
    ∃ r : Rw, cs = r.v ∧ r.Ok := by
  obtain ⟨ys, n', _, _, hlen, hyl, hf⟩ := DataW.trod_struct Tryd.underlying35 h
  rw [cellsRow] at hlen
  match cs, hlen with
  | [c0, c1, c2, c3, c4, c5], _ =>
    obtain ⟨y0, hy0⟩ : ∃ y, ys[0]? = some y := ⟨_, List.getElem?_eq_getElem (by rw [hyl]; decide)⟩
    have f0 : DataW.trod enc Tryd.prog W 0 (fun _ => true) true n' 3 (([c0, c1, c2, c3, c4, c5].drop 0).take (Tryd.prog.cellsOf 3)) = ys[0]? := hf 0 _ rfl
    rw [hy0, cellsInt] at f0
    simp only [List.drop, List.take] at f0
    obtain ⟨y1, hy1⟩ : ∃ y, ys[1]? = some y := ⟨_, List.getElem?_eq_getElem (by rw [hyl]; decide)⟩
    have f1 : DataW.trod enc Tryd.prog W 0 (fun _ => true) true n' 3 (([c0, c1, c2, c3, c4, c5].drop 1).take (Tryd.prog.cellsOf 3)) = ys[1]? := hf 1 _ rfl
    rw [hy1, cellsInt] at f1
    simp only [List.drop, List.take] at f1
    obtain ⟨y2, hy2⟩ : ∃ y, ys[2]? = some y := ⟨_, List.getElem?_eq_getElem (by rw [hyl]; decide)⟩
    have f2 : DataW.trod enc Tryd.prog W 0 (fun _ => true) true n' 24 (([c0, c1, c2, c3, c4, c5].drop 2).take (Tryd.prog.cellsOf 24)) = ys[2]? := hf 2 _ rfl
    rw [hy2, cellsU16] at f2
    simp only [List.drop, List.take] at f2
    obtain ⟨y3, hy3⟩ : ∃ y, ys[3]? = some y := ⟨_, List.getElem?_eq_getElem (by rw [hyl]; decide)⟩
    have f3 : DataW.trod enc Tryd.prog W 0 (fun _ => true) true n' 5 (([c0, c1, c2, c3, c4, c5].drop 3).take (Tryd.prog.cellsOf 5)) = ys[3]? := hf 3 _ rfl
    rw [hy3, cellsU8] at f3
    simp only [List.drop, List.take] at f3
    obtain ⟨y4, hy4⟩ : ∃ y, ys[4]? = some y := ⟨_, List.getElem?_eq_getElem (by rw [hyl]; decide)⟩
    have f4 : DataW.trod enc Tryd.prog W 0 (fun _ => true) true n' 5 (([c0, c1, c2, c3, c4, c5].drop 4).take (Tryd.prog.cellsOf 5)) = ys[4]? := hf 4 _ rfl
    rw [hy4, cellsU8] at f4
    simp only [List.drop, List.take] at f4
    obtain ⟨y5, hy5⟩ : ∃ y, ys[5]? = some y := ⟨_, List.getElem?_eq_getElem (by rw [hyl]; decide)⟩
    have f5 : DataW.trod enc Tryd.prog W 0 (fun _ => true) true n' 5 (([c0, c1, c2, c3, c4, c5].drop 5).take (Tryd.prog.cellsOf 5)) = ys[5]? := hf 5 _ rfl
    rw [hy5, cellsU8] at f5
    simp only [List.drop, List.take] at f5
    obtain ⟨z0, e0, _, w0⟩ := DataW.trod_int Tryd.underlying3 f0
    injection e0 with e0 _
    obtain ⟨z1, e1, _, w1⟩ := DataW.trod_int Tryd.underlying3 f1
    injection e1 with e1 _
    obtain ⟨z2, e2, _, w2⟩ := DataW.trod_int Tryd.underlying24 f2
    injection e2 with e2 _
    obtain ⟨z3, e3, _, w3⟩ := DataW.trod_int Tryd.underlying5 f3
    injection e3 with e3 _
    obtain ⟨z4, e4, _, w4⟩ := DataW.trod_int Tryd.underlying5 f4
    injection e4 with e4 _
    obtain ⟨z5, e5, _, w5⟩ := DataW.trod_int Tryd.underlying5 f5
    injection e5 with e5 _
    subst e0; subst e1; subst e2; subst e3; subst e4; subst e5
    exact ⟨⟨z0, z1, z2, z3, z4, z5⟩, rfl, bounds_u16 w2, bounds_u8 w3, bounds_u8 w4, bounds_u8 w5⟩
set_option maxRecDepth 100000 in
theorem rows_open {H : Type} {enc : TypeId × Value → H} {W : World} {base : Nat} {v : Value} {d : DataW H} {p : List MemPlace}
    (hok : Value.okWide Tryd.prog W .any base 22 v) (h : DataW.Trod enc Tryd.prog W 0 (fun _ => true) true 22 v d p) : RowsIn W v := by
  rcases slice_ok uRow hok with rfl | ⟨a, len, cap, rfl, hl, hs, hb⟩
  · exact ⟨none, [], 0, rfl, Nat.le_refl _, Nat.zero_le _, (fun a ha => by cases ha), ⟨fun i r hr => by simp at hr, fun r hr => by cases hr⟩⟩
  · obtain ⟨fuel, hf⟩ := h
    rcases Deep.open_slice uRow hf with ⟨h0, _⟩ | ⟨a', len', cap', m, n, D, Pl, h1, _, hle, hm, hmm, _, hi⟩
    · simp [Value.cells] at h0
    · simp only [Value.cells, List.cons.injEq, and_true] at h1
      injection h1 with h1 h2 h3
      injection h1 with h1
      subst h1; subst h2; subst h3
      rw [if_pos rfl] at hmm
      subst hmm
      obtain ⟨g, off, spot⟩ := a
      obtain rfl : spot = none := hs
      have each : ∀ i : Nat, i < len → ∃ r : Rw, r.Ok ∧ ∀ j, j < 6 → W.cell? ⟨g, off + i * 6 + j, none⟩ = r.v[j]? := fun i him => by
        obtain ⟨cs', hc, ht⟩ := hi i (by omega)
        obtain ⟨r, rfl, hr⟩ := row_open ht
        refine ⟨r, hr, fun j hj => ?_⟩
        rw [cellsRow] at hc
        have := (World.cells?_some hc).2.2 j hj
        rw [← this, Deep.add_add]
        have hadd : ((⟨g, off, none⟩ : Addr).add (i * 6 + j)) = ⟨g, off + i * 6 + j, none⟩ := by
          unfold Addr.add
          split
          · rename_i h0; obtain ⟨rfl, rfl⟩ : i = 0 ∧ j = 0 := by omega
            rfl
          · simp only [Nat.add_assoc]
        rw [hadd]
      obtain ⟨rs, hrl, hrs⟩ : ∃ rs : List Rw, rs.length = len ∧ ∀ (i : Nat) (r : Rw), rs[i]? = some r → r.Ok ∧ ∀ j, j < 6 → W.cell? ⟨g, off + i * 6 + j, none⟩ = r.v[j]? := by
        have key : ∀ k, k ≤ len → ∃ rs : List Rw, rs.length = k ∧ ∀ (i : Nat) (r : Rw), rs[i]? = some r → r.Ok ∧ ∀ j, j < 6 → W.cell? ⟨g, off + i * 6 + j, none⟩ = r.v[j]? := by
          intro k
          induction k with
          | zero => intro _; exact ⟨[], rfl, fun i r hr => by simp at hr⟩
          | succ k ih =>
            intro hk
            obtain ⟨rs, h1, h2⟩ := ih (by omega)
            obtain ⟨r, h3, h4⟩ := each k (by omega)
            refine ⟨rs ++ [r], by simp [h1], fun i q hq => ?_⟩
            by_cases hlt : i < rs.length
            · rw [List.getElem?_append_left hlt] at hq; exact h2 i q hq
            · rw [List.getElem?_append_right (by omega)] at hq
              have : i - rs.length = 0 := by
                have := (List.getElem?_eq_some_iff.1 hq).1
                simp at this; omega
              rw [this] at hq
              simp at hq
              subst hq
              obtain rfl : i = k := by omega
              exact ⟨h3, h4⟩
        exact key len (Nat.le_refl _)
      unfold maxLen at hm
      subst hrl
      exact ⟨_, rs, _, rfl, hl, by omega, (fun a ha => by injection ha with ha; subst ha; exact hb), ⟨fun i r hr => ⟨g, off, rfl, hb, (hrs i r hr).2⟩, fun r hr => by
        obtain ⟨i, hi⟩ := List.getElem?_of_mem hr
        exact (hrs i r hi).1⟩⟩
theorem below_alike3 {B : Nat} {a w W : World} (h : Below B a w) (he : W.heap = w.heap) (h1 : W.os = w.os) (h2 : W.tape = w.tape) (h3 : W.output = w.output) : Below B a W :=
  ⟨h1.trans h.os, h2.trans h.tape, h3.trans h.output, by rw [he]; exact h.size, fun k hk => by rw [he]; exact h.block k hk⟩
theorem below_step {a w W we : World} (h : Below a.heap.size a w) (k : Below W.heap.size W we) (he : W.heap = w.heap) (h1 : W.os = w.os) (h2 : W.tape = w.tape) (h3 : W.output = w.output) : Below a.heap.size a we :=
  (below_alike3 h he h1 h2 h3).trans (k.mono (below_alike3 h he h1 h2 h3).size)
theorem RowsAt.from_ {w w' : World} {A : Option Addr} {rs : List Rw} (h : RowsAt w A rs) (hA : ∀ a, A = some a → a.block < w.heap.size) (k : Below w.heap.size w w') : RowsAt w' A rs := h.below k fun g off e => hA _ e
theorem EnvAt.from_ {w w' : World} {A : Option Addr} {env : List Int} (h : EnvAt w A env) (k : Below w.heap.size w w') : EnvAt w' A env := h.keep (fun a ha => k.block _ (h.lt a ha)) k.size
theorem row_from {w w' : World} {base : Nat} {e : TypeId} {size n : Nat} {v : Value} {xs : List Value} (h : w.ownsRow base e size v n xs) (k : Below w.heap.size w w') : w'.ownsRow base e size v n xs := row_same h fun b hb => by
  obtain ⟨cur, hc⟩ := row_block h hb
  exact k.block _ hc.lt
end Go.Proofs.YtgbmiphaabeodaaDoor
