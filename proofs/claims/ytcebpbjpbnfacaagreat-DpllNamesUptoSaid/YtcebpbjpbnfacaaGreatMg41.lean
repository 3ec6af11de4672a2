/-
  Parts of the proof, joined: DpllC3, DpllC4.
-/
import Derived.Test.YtcebpbjpbnfacaaGreatMg40
import Derived.Test.YtcebpbjpbnfacaaGreatMg32
import Derived.Test.YtcebpbjpbnfacaaGreatMg37
import Derived.Deep.RegionHeld3
import Derived.Laws.Rows
import Derived.Deep.AppendLies

/-
  Count of package dpll: shortest.
-/
namespace Go.Proofs.YtcebpbjpbnfacaaGreat
open Go.ChangeShapes Go.WideShapes Go.ChangeAt Go.RowKit
set_option linter.unusedVariables false
set_option linter.unusedSimpArgs false

section
variable {n : Nat}
/-- The first of those that have the fewest literals: one of them. -/
def ShPost (l : List (List Int)) (w : World) (e : Ending) (w' : World) : Prop := (∃ c ∈ l, e = .returned (mv c)) ∧ Below w.heap.size w w'
set_option maxHeartbeats 1600000 in
theorem shortest_any {τ : Nat → Nat} {w : World} {r : Nat} {A : Option Addr} {l : List (List Int)} {cap : Nat} (hn : n ≤ 24) (hl : MskAt τ w r A l) (hok : ∀ c ∈ l, ∀ x ∈ c, LOk n x) (h0 : 0 < l.length) (hb : l.length ≤ 9223372036854775807) : Calls Tryz.prog 71 #[.slice A l.length cap] w (ShPost l w) := by
  obtain ⟨c0, hc0⟩ : ∃ c, l[0]? = some c := ⟨_, List.getElem?_eq_getElem h0⟩
  obtain ⟨g, rfl, _, x0, x1, z0⟩ := hl 0 c0 hc0
  have HL := Lib.hid (show ∀ (i : Nat) (c : List Int), l[i]? = some c → w.cell? ⟨g, i * 2, none⟩ = some (.int .u32 (bp c : Int)) ∧ w.cell? ⟨g, i * 2 + 1, none⟩ = some (.int .u32 (bt c : Int)) from fun i c hc => by
    obtain ⟨g', e, _, a, b, _⟩ := hl i c hc
    injection e with e; injection e with e
    subst e
    exact ⟨a, b⟩)
  have HM := Lib.hid (List.mem_of_getElem? hc0)
  have HOK := Lib.hid hok
  have x0 : w.cell? ⟨g, 0, none⟩ = some (.int .u32 (bp c0 : Int)) := x0
  have x1 : w.cell? ⟨g, 1, none⟩ = some (.int .u32 (bt c0 : Int)) := x1
  have b1 : (0 : Int) < (l.length : Int) := by omega
  clear hl hok hc0
  go_enter Tryz.func71, Tryz.ntmps71
  go_wp2_with fail
  go_loopw [11] (fun iv wr => ∃ (i : Nat) (c : List Int), i ≤ l.length ∧ iv = .int .i64 i ∧ Hid (c ∈ l ∧ HasB wr w.heap.size 150 #[.int .u32 0, .int .u32 0] ∧ HasB wr (w.heap.size + 1) 150 #[.int .u32 (bp c : Int), .int .u32 (bt c : Int)] ∧ Below w.heap.size w wr ∧ w.heap.size + 2 ≤ wr.heap.size)) (fun iv _ => l.length - (intOf iv).toNat)
  case atStart =>
    refine ⟨0, c0, Nat.zero_le _, rfl, HM.out, ?_, ?_, Below.plus (below_alloc w _) _, by simp⟩
    · show ((w.alloc _).alloc _).heap[w.heap.size]? = _
      rw [alloc_other (by simp)]; exact new_heap w _
    · show ((w.alloc _).alloc _).heap[w.heap.size + 1]? = _
      have := new_heap (w.alloc (.cells #[Value.int .u32 0, .int .u32 0] 150)) (.cells #[.int .u32 (bp c0 : Int), .int .u32 (bt c0 : Int)] 150)
      simpa using this
  case round =>
    obtain ⟨i, c, hi, rfl, R⟩ := hrel
    by_cases hlt : i < l.length
    · obtain ⟨c1, hc1⟩ : ∃ c, l[i]? = some c := ⟨_, List.getElem?_eq_getElem hlt⟩
      obtain ⟨y0, y1⟩ := HL.out i c1 hc1
      have y0 : wr.cell? ⟨g, i * 2, none⟩ = some (.int .u32 (bp c1 : Int)) := (R.out.2.2.2.1.cell (p := ⟨g, i * 2, none⟩) z0).trans y0
      have y1 : wr.cell? ⟨g, i * 2 + 1, none⟩ = some (.int .u32 (bt c1 : Int)) := (R.out.2.2.2.1.cell (p := ⟨g, i * 2 + 1, none⟩) z0).trans y1
      have HC1 := Lib.hid (List.mem_of_getElem? hc1)
      have b2 : (0 : Int) ≤ (i : Int) := by omega
      have b3 : (i : Int) < (l.length : Int) := by omega
      clear hc1
      have CS1 := Lib.hid (fun W => show Calls Tryz.prog 72 #[.agg #[.int .u32 (bp c1 : Int), .int .u32 (bt c1 : Int)]] W _ from size_any hn (HOK.out c1 HC1.out) W)
      have CS3 := Lib.hid (fun W => show Calls Tryz.prog 72 #[.agg #[.int .u32 (bp c : Int), .int .u32 (bt c : Int)]] W _ from size_any hn (HOK.out c R.out.1) W)
      go_wp2_with fail
      obtain ⟨W1, hW1⟩ : ∃ W1, W1 = wr.alloc (.cells #[.int .u32 (bp c1 : Int), .int .u32 (bt c1 : Int)] 150) := ⟨_, rfl⟩
      rw [← hW1]
      have H5 : HasB W1 wr.heap.size 150 #[.int .u32 (bp c1 : Int), .int .u32 (bt c1 : Int)] := by rw [hW1]; exact new_heap wr _
      have hbw : Below wr.heap.size wr W1 := by rw [hW1]; exact below_alloc wr _
      have H3 : HasB W1 (w.heap.size + 1) 150 #[.int .u32 (bp c : Int), .int .u32 (bt c : Int)] := (hbw.block _ (by have := R.out.2.2.2.2; omega)).trans R.out.2.2.1
      have H2 : HasB W1 w.heap.size 150 #[.int .u32 0, .int .u32 0] := (hbw.block _ (by have := R.out.2.2.2.2; omega)).trans R.out.2.1
      have hsz : W1.heap.size = wr.heap.size + 1 := by rw [hW1]; simp
      have HBW := Lib.hid (Below.on R.out.2.2.2.1 hbw)
      have HW := Lib.hid (And.intro H5 (And.intro H3 (And.intro H2 hsz)))
      have hs2 := R.out.2.2.2.2
      obtain ⟨a5, ha5⟩ : ∃ a, wr.heap.size = a := ⟨_, rfl⟩
      obtain ⟨a3, ha3⟩ : ∃ a, w.heap.size + 1 = a := ⟨_, rfl⟩
      rw [ha5] at H5 HW hsz hs2 ⊢
      rw [ha3] at H3 HW ⊢
      have z5 : a5 < W1.drew.heap.size := by show a5 < W1.heap.size; omega
      have z3 : a3 < W1.drew.heap.size := by show a3 < W1.heap.size; omega
      have k5a : W1.drew.cell? ⟨a5, 0, none⟩ = some (.int .u32 (bp c1 : Int)) := H5.cell 0
      have k5b : W1.drew.cell? ⟨a5, 1, none⟩ = some (.int .u32 (bt c1 : Int)) := H5.cell 1
      have k3a : W1.drew.cell? ⟨a3, 0, none⟩ = some (.int .u32 (bp c : Int)) := H3.cell 0
      have k3b : W1.drew.cell? ⟨a3, 1, none⟩ = some (.int .u32 (bt c : Int)) := H3.cell 1
      have B1 : Hid (Below W1.heap.size W1 W1.drew) := Below.draws (Below.refl _ _) 1
      clear hW1 ha5 hbw H5 H3 H2 y0 y1 x0 x1
      go_region_held3 (fun w' => w'.cell? ⟨a5, 0, none⟩ = some (.int .u32 (bp c1 : Int)) ∧ w'.cell? ⟨a5, 1, none⟩ = some (.int .u32 (bt c1 : Int)) ∧ w'.cell? ⟨a3, 0, none⟩ = some (.int .u32 (bp c : Int)) ∧ w'.cell? ⟨a3, 1, none⟩ = some (.int .u32 (bt c : Int))) (first | go_keep | (exact ⟨by assumption, by assumption, by assumption, by assumption⟩)) ((go_at_call 72; (first | (with_reducible refine (CS1.out _).mono ?_) | (with_reducible refine (CS3.out _).mono ?_)); rintro e we ⟨⟨zz, rfl, _, _, _⟩, hbw⟩; have B1 := Lib.hid (Below.on B1.out hbw); have j5a := (hbw.cell (p := ⟨a5, 0, none⟩) (by assumption)).trans (by assumption); have j5b := (hbw.cell (p := ⟨a5, 1, none⟩) (by assumption)).trans (by assumption); have j3a := (hbw.cell (p := ⟨a3, 0, none⟩) (by assumption)).trans (by assumption); have j3b := (hbw.cell (p := ⟨a3, 1, none⟩) (by assumption)).trans (by assumption); have z5 : a5 < we.heap.size := Nat.lt_of_lt_of_le (by assumption) hbw.size; have z3 : a3 < we.heap.size := Nat.lt_of_lt_of_le (by assumption) hbw.size; clear hbw))
      have H3w : HasB we a3 150 #[.int .u32 (bp c : Int), .int .u32 (bt c : Int)] := (B1.out.block a3 (by omega)).trans HW.out.2.1
      have f3a := H3w.free 0
      have f3b := H3w.free 1
      have HH3 := Lib.hid H3w
      clear H3w
      go_wp2_with fail
      · subst ha3
        go_roundw
        case rel =>
          have hb2 : HasB we w.heap.size 150 #[.int .u32 0, .int .u32 0] := (B1.out.block _ (by omega)).trans HW.out.2.2.1
          have hbb : Below w.heap.size w we := Below.on HBW.out B1.out
          have hb3 := (HH3.out.put 0 (.int .u32 (bp c1 : Int))).put 1 (.int .u32 (bt c1 : Int))
          refine ⟨i + 1, c1, by omega, by go_num, HC1.out, ?_, hb3, (hbb.setCell (Nat.le_succ _) _).setCell (Nat.le_succ _) _, by have := B1.out.size; simp; omega⟩
          exact (set_other (by show w.heap.size ≠ w.heap.size + 1; omega)).trans ((set_other (by show w.heap.size ≠ w.heap.size + 1; omega)).trans hb2)
        case measure => simp [intOf]; omega
      · subst ha3
        go_roundw
        case rel =>
          exact ⟨i + 1, c, by omega, by go_num, R.out.1, (B1.out.block _ (by omega)).trans HW.out.2.2.1, (B1.out.block _ (by omega)).trans HW.out.2.1, Below.on HBW.out B1.out, by have := B1.out.size; omega⟩
        case measure => simp [intOf]; omega
    · obtain rfl : i = l.length := by omega
      have k3a := R.out.2.2.1.cell 0
      have k3b := R.out.2.2.1.cell 1
      have k2a := R.out.2.1.cell 0
      have k2b := R.out.2.1.cell 1
      have f2a := R.out.2.1.free 0
      have f2b := R.out.2.1.free 1
      have t0 := (R.out.2.1.put 0 (.int .u32 (bp c : Int))).put 1 (.int .u32 (bt c : Int))
      have T0 := Lib.hid (show ((wr.setCell ⟨w.heap.size, 0, none⟩ (.int .u32 (bp c : Int))).setCell ⟨w.heap.size, 1, none⟩ (.int .u32 (bt c : Int))).heap[w.heap.size]? = some (.cells #[.int .u32 (bp c : Int), .int .u32 (bt c : Int)] 150 (0, 0)) from t0)
      clear t0 x0 x1
      go_wp2_with fail
      refine bodyPost_ret (results_cell_row rfl _ _ w.heap.size _ _ _ _ rfl T0.out Tryz.underlying150 rfl (by kernel_rfl)) rfl ?_
      exact ⟨⟨c, R.out.1, rfl⟩, (R.out.2.2.2.1.setCell (Nat.le_refl _) _).setCell (Nat.le_refl _) _⟩
end
end Go.Proofs.YtcebpbjpbnfacaaGreat

/-
  Count of package dpll: the counter, and what is left of masks under a literal.
-/
namespace Go.Proofs.YtcebpbjpbnfacaaGreat
open Go.ChangeShapes Go.WideShapes Go.ChangeAt Go.RowKit
set_option linter.unusedVariables false
set_option linter.unusedSimpArgs false

theorem infoMsk : (Tryz.prog.info? 150).map (fun i => (i.zero, i.size, i.bytes)) = some (some (.agg #[.int .u32 0, .int .u32 0]), 2, 8) := by kernel_rfl
/-- A counter, and the rows that it has room in. -/
structure Ctr (B : Nat) (τ : Nat → Nat) (w : World) (q : Nat) (s M : Int) (vs : List Value) : Prop where
  base : B ≤ w.heap.size
  low : ∀ b, b < B → τ b = 0
  blk : Blk τ 9 w q 79 (.int .i64 s :: .int .i64 M :: vs).toArray
  len : vs.length = 24
  room : ∀ i v, vs[i]? = some v → ∃ m xs, RowN τ (10 + i) w 150 2 v m xs
/-- What is left of masks where a literal holds. -/
def undr (l : List (List Int)) (v : Int) : List (List Int) := (l.filter fun c => !(decide (v ∈ c))).map fun c => c.filter fun x => x != -v
theorem undr_snoc (l : List (List Int)) (c : List Int) (v : Int) : undr (l ++ [c]) v = if v ∈ c then undr l v else undr l v ++ [c.filter fun x => x != -v] := by
  unfold undr
  rw [List.filter_append, List.map_append]
  by_cases h : v ∈ c <;> simp [h]
theorem undr_len (l : List (List Int)) (v : Int) : (undr l v).length ≤ l.length := by unfold undr; rw [List.length_map]; exact List.length_filter_le _ _
section
variable {R : Nat → Prop} {B : Nat} {τ τ' : Nat → Nat} {w w' : World} {q : Nat} {s M : Int} {vs : List Value}
/-- A row is cut to nothing: its room stays. -/
theorem RowN.none_left {r : Nat} {e : TypeId} {m cap : Nat} {A : Option Addr} {xs : List Value} {sz : Nat} (h : RowN τ r w e sz (.slice A m cap) m xs) : RowN τ r w e sz (.slice A 0 cap) 0 [] := by
  refine ⟨⟨by simp, ?_⟩, fun g hg => h.2 g (by
    cases A with
    | none => simp [Value.ownBlock] at hg
    | some a => simpa [Value.ownBlock] using hg)⟩
  rcases h.1.2 with ⟨h0, h1⟩ | ⟨g, cap', cur, h0, hb, hg, h1, h2, h3, h4⟩
  · injection h0 with a b c
    exact .inl ⟨by rw [a, c], rfl⟩
  · injection h0 with a b c
    subst c
    exact .inr ⟨g, cap, cur, by rw [a], hb, hg, Nat.zero_le _, h2, h3, by simp⟩
theorem RowN.form {r : Nat} {e : TypeId} {m sz : Nat} {v : Value} {xs : List Value} (h : RowN τ r w e sz v m xs) : ∃ A cap, v = .slice A m cap ∧ m ≤ cap ∧ cap ≤ 9223372036854775807 := by
  rcases h.at with ⟨h0, h1⟩ | ⟨g, cap, cur, h0, hb, h1, h2, _⟩
  · exact ⟨none, 0, by rw [h0, h1], by omega, by omega⟩
  · exact ⟨_, cap, h0, h1, h2⟩
/-- One element more at the end. -/
theorem RowN.fin2 {r : Nat} {e : TypeId} {m cap : Nat} {A : Option Addr} {xs : List Value} (h : RowN τ r w e 2 (.slice A m cap) m xs) (a b : Value) : ∀ (wp : World) (c g1 : Nat), (w.alloc (.cells #[a, b] e)).grownBy wp (Value.slice A m cap).ownBlock → wp.ownsRow 0 e 2 (.slice (some ⟨g1, 0, none⟩) (m + 1) c) (m + 1) (xs ++ [a, b]) → ((Value.slice A m cap).ownBlock = some g1 ∨ g1 = w.heap.size + 1) →
    RowN (fun x => if x = g1 then r else τ x) r wp e 2 (.slice (some ⟨g1, 0, none⟩) (m + 1) c) (m + 1) (xs ++ [a, b]) ∧ Step (fun k => k = r) τ (fun x => if x = g1 then r else τ x) w wp := fun wp c g1 hg hown hat => by
  have b1 : Below w.heap.size w (w.alloc (.cells #[a, b] e)) := (Below.refl _ _).alloc (Nat.le_refl _) _
  have s1 : Step (fun k => k = r) τ τ w (w.alloc (.cells #[a, b] e)) := Step.of_below _ τ b1
  have s2 : Step (fun k => k = r) τ (fun x => if x = g1 then r else τ x) (w.alloc (.cells #[a, b] e)) wp := Step.of_grown hg (fun x hx => h.2 x hx) (hat.imp (fun e => h.2 g1 e) (fun e => by simp; omega)) rfl
  exact ⟨⟨hown, fun x hx => by injection hx with hx; subst hx; simp⟩, s1.trans s2⟩
theorem Ctr.step (h : Ctr B τ w q s M vs) (k : Step R τ τ' w w') (h9 : ¬ R 9) (hr : ∀ i, i < 24 → ¬ R (10 + i)) (h0 : ¬ R 0) : Ctr B τ' w' q s M vs :=
  ⟨Nat.le_trans h.base k.kept.size, fun b hb => (k.tag b (Nat.lt_of_lt_of_le hb h.base)).trans (h.low b hb), h.blk.step k h9, h.len, fun i v hv => by
    obtain ⟨m, xs, r⟩ := h.room i v hv
    exact ⟨m, xs, r.step k (hr i (by have := (List.getElem?_eq_some_iff.1 hv).1; have := h.len; omega))⟩⟩
/-- A row has turned, and its head is written. -/
theorem Ctr.setRoom (h : Ctr B τ w q s M vs) {o : Nat} (ho : o < 24) (k : Step (fun r => r = 10 + o) τ τ' w w') {v : Value} {m : Nat} {xs : List Value} (hv : RowN τ' (10 + o) w' 150 2 v m xs) :
    Ctr B τ' (w'.setCell ⟨q, 2 + o, none⟩ v) q s M (vs.set o v) ∧ Step (fun r => r = 9 ∨ r = 10 + o) τ τ' w (w'.setCell ⟨q, 2 + o, none⟩ v) ∧ RowN τ' (10 + o) (w'.setCell ⟨q, 2 + o, none⟩ v) 150 2 v m xs := by
  have b' := h.blk.step k (by omega)
  have s2 : Step (fun r => r = 9) τ' τ' w' (w'.setCell ⟨q, 2 + o, none⟩ v) := Step.set _ _ b'.2
  have hv' := hv.step s2 (by omega)
  refine ⟨⟨?_, fun b hb => (k.tag b (Nat.lt_of_lt_of_le hb h.base)).trans (h.low b hb), ?_, by rw [List.length_set]; exact h.len, fun i x hx => ?_⟩, (k.mono fun r hr => .inr hr).trans (s2.mono fun r hr => .inl hr), hv'⟩
  · exact Nat.le_trans h.base (Nat.le_trans k.kept.size s2.kept.size)
  · have := b'.put (2 + o) v
    have e : ((.int .i64 s :: .int .i64 M :: vs).toArray).setIfInBounds (2 + o) v = (.int .i64 s :: .int .i64 M :: vs.set o v).toArray := by
      rw [List.setIfInBounds_toArray, show 2 + o = o + 1 + 1 by omega]; rfl
    rw [e] at this; exact this
  · rw [List.getElem?_set] at hx
    split at hx
    · rename_i e
      subst e
      rw [if_pos (by rw [h.len]; exact ho)] at hx
      injection hx with hx; subst hx
      exact ⟨m, xs, hv'⟩
    · rename_i e
      obtain ⟨m2, xs2, r2⟩ := h.room i x hx
      exact ⟨m2, xs2, (r2.step k (by omega)).step s2 (by omega)⟩
end
/-- What under answers. -/
def UnPost (B : Nat) (τ : Nat → Nat) (w : World) (q o : Nat) (s M : Int) (l : List (List Int)) (v : Int) (e : Ending) (w' : World) : Prop :=
  ∃ τ' vs' A cap, e = .returned (.slice A (undr l v).length cap) ∧ Ctr B τ' w' q s M vs' ∧ MskAt τ' w' (10 + o) A (undr l v) ∧ Step (fun r => r = 9 ∨ r = 10 + o) τ τ' w w'
structure UnR (τ : Nat → Nat) (w : World) (o : Nat) (l : List (List Int)) (τ' : Nat → Nat) (wr : World) (A : Option Addr) (cap : Nat) : Prop where
  R : RowN τ' (10 + o) wr 150 2 (.slice A l.length cap) l.length (mkCells l)
  T : Step (fun r => r = 10 + o) τ τ' w wr
section
variable {B : Nat} {τ : Nat → Nat} {w : World} {q o n : Nat} {s M : Int} {vs : List Value} {r : Nat} {A : Option Addr} {l : List (List Int)} {cap : Nat}
set_option maxHeartbeats 3200000 in
set_option maxRecDepth 4000 in
theorem under_any (h : Ctr B τ w q s M vs) (ho : o < 24) (hn : n ≤ 24) (hl : MskAt τ w r A l) (hr : r ≠ 9 ∧ r ≠ 10 + o) (hok : ∀ c ∈ l, ∀ x ∈ c, LOk n x) (hb : l.length ≤ 100000) {v : Int} (okv : LOk n v) :
    Calls Tryz.prog 74 #[.pointer (some ⟨q, 0, none⟩), .slice A l.length cap, .agg #[.int .u32 (lp v : Int), .int .u32 (lt1 v : Int)], .int .i64 (o : Int)] w (UnPost B τ w q o s M l v) := by
  obtain ⟨vo, hvo⟩ : ∃ v, vs[o]? = some v := ⟨_, List.getElem?_eq_getElem (by rw [h.len]; exact ho)⟩
  obtain ⟨m0, xs0, R0⟩ := h.room o vo hvo
  obtain ⟨A0, cap0, rfl, c1, c2⟩ := R0.form
  have f1 : w.cell? ⟨q, 2 + o, none⟩ = some (.slice A0 m0 cap0) := by
    rw [h.blk.cell, show (2 + o) = o + 1 + 1 by omega]
    simpa using hvo
  have zq := h.blk.lt
  have HVO := Lib.hid hvo
  have b1 : (0 : Int) ≤ (o : Int) := by omega
  have b2 : (o : Int) < 24 := by omega
  obtain ⟨τ0, hτ0⟩ : ∃ τ0 : Nat → Nat, τ0 = fun b => if b = w.heap.size then 8 else τ b := ⟨_, rfl⟩
  obtain ⟨w1, hw1⟩ : ∃ w1, w1 = w.alloc (.cells #[.int .u32 (lp v : Int), .int .u32 (lt1 v : Int)] 150) := ⟨_, rfl⟩
  have hb1 : Below w.heap.size w w1 := by rw [hw1]; exact below_alloc w _
  have k0 : Step (fun _ => False) τ τ0 w w1 := ⟨(Step.of_below (fun _ => False) τ hb1).kept, fun b hb => by rw [hτ0]; exact if_neg (by omega)⟩
  have BX : Hid (Blk τ0 8 w1 w.heap.size 150 #[.int .u32 (lp v : Int), .int .u32 (lt1 v : Int)]) := ⟨by rw [hw1]; exact new_heap w _, by rw [hτ0]; exact if_pos rfl⟩
  have H := Lib.hid (h.step k0 id (fun _ _ => id) id)
  have HL := Lib.hid (hl.step k0 id)
  have R1 : Hid (UnR τ0 w1 o (undr (l.take 0) v) τ0 w1 A0 cap0) := ⟨R0.none_left.step k0 id, Step.refl _ _ _⟩
  have K0 := Lib.hid k0
  have f1 : w1.cell? ⟨q, 2 + o, none⟩ = some (.slice A0 m0 cap0) := (hb1.cell (p := ⟨q, 2 + o, none⟩) zq).trans f1
  have hsz : w1.heap.size = w.heap.size + 1 := by rw [hw1]; simp
  have HOK := Lib.hid hok
  have hll := lit_lt hn okv
  obtain ⟨X, hX⟩ : ∃ X, lp v = X := ⟨_, rfl⟩
  obtain ⟨Y, hY⟩ : ∃ Y, lt1 v = Y := ⟨_, rfl⟩
  have HXY := Lib.hid (And.intro hX hY)
  rw [hX, hY] at hw1 BX hll ⊢
  obtain ⟨i0, hi0, hz0, hz1, hz2⟩ := info_parts infoMsk
  have HI := Lib.hid (show _ ∧ _ ∧ _ ∧ _ from ⟨hi0, hz0, hz1, hz2⟩)
  clear hi0 hz0 hz1 hz2 h hl R0 hvo hX hY hb1 k0 hτ0 hok
  go_enter Tryz.func74, Tryz.ntmps74
  go_wp2_with fail
  rw [← hw1]
  go_loopw [9, 21] (fun rv iv wr => ∃ (i : Nat) (A2 : Option Addr) (c2 : Nat) (τ' : Nat → Nat), i ≤ l.length ∧ iv = .int .i64 i ∧ rv = .slice A2 (undr (l.take i) v).length c2 ∧ Hid (UnR τ0 w1 o (undr (l.take i) v) τ' wr A2 c2)) (fun _ iv _ => l.length - (intOf iv).toNat)
  case atStart => exact ⟨0, A0, cap0, τ0, Nat.zero_le _, rfl, rfl, R1⟩
  case round =>
    obtain ⟨i, A2, c2, τ', hi, rfl, rfl, R⟩ := hrel
    clear R1 f1
    by_cases hlt : i < l.length
    · obtain ⟨c, hc⟩ : ∃ c, l[i]? = some c := ⟨_, List.getElem?_eq_getElem hlt⟩
      obtain ⟨g, rfl, hgt, y0, y1, zg⟩ := (HL.out.step R.out.T (by omega)) i c hc
      have hB2 := BX.out.step R.out.T (by omega)
      have hcm := HOK.out c (List.mem_of_getElem? hc)
      have HIN := Lib.hid (mask_in (c := c) (v := v) (fun x hx => (hcm x hx).1) okv.1)
      have HO1 := Lib.hid (bp_out hn hcm okv)
      have HO2 := Lib.hid (bt_out hn hcm okv)
      have hp1 := bp_lt hn c hcm
      have hp2 := bt_lt hn c hcm
      have HTK := Lib.hid (show undr (l.take (i + 1)) v = if v ∈ c then undr (l.take i) v else undr (l.take i) v ++ [c.filter fun x => x != -v] by
        obtain ⟨h1, h2⟩ := List.getElem?_eq_some_iff.1 hc
        rw [List.take_succ_eq_append_getElem h1, h2]; exact undr_snoc _ _ _)
      rw [HXY.out.1, HXY.out.2] at HIN
      rw [HXY.out.2] at HO1
      rw [HXY.out.1] at HO2
      have e1 : bits .and .u32 (bp c : Int) (X : Int) = ((bp c &&& X : Nat) : Int) := u32_and_nat _ _ (by omega) (by omega)
      have e2 : bits .and .u32 (bt c : Int) (Y : Int) = ((bt c &&& Y : Nat) : Int) := u32_and_nat _ _ (by omega) (by omega)
      have ha1 : bp c &&& X < 2 ^ 24 := Nat.and_lt_two_pow _ hll.1
      have ha2 : bt c &&& Y < 2 ^ 24 := Nat.and_lt_two_pow _ hll.2
      have e3 : bits .or .u32 ((bp c &&& X : Nat) : Int) ((bt c &&& Y : Nat) : Int) = (((bp c &&& X) ||| (bt c &&& Y) : Nat) : Int) := u32_or_nat _ _ (by omega) (by omega)
      have e4 : bits .andNot .u32 (bp c : Int) (Y : Int) = (bp (c.filter fun x => x != -v) : Int) := by rw [u32_andNot_nat _ _ (by omega) (by omega), HO1.out]
      have e5 : bits .andNot .u32 (bt c : Int) (X : Int) = (bt (c.filter fun x => x != -v) : Int) := by rw [u32_andNot_nat _ _ (by omega) (by omega), HO2.out]
      generalize (bp c &&& X) ||| (bt c &&& Y) = z3 at *
      generalize bp c &&& X = z1 at *
      generalize bt c &&& Y = z2 at *
      obtain ⟨c', hc'⟩ : ∃ c', (c.filter fun x => x != -v) = c' := ⟨_, rfl⟩
      rw [hc'] at e4 e5 HTK
      have x0 := hB2.cell 0
      have x1 := hB2.cell 1
      have zx := hB2.lt
      have hul : (undr (l.take i) v).length ≤ 100000 := by
        have := undr_len (l.take i) v
        rw [List.length_take] at this; omega
      have b3 : (0 : Int) ≤ (i : Int) := by omega
      have b4 : (i : Int) < (l.length : Int) := by omega
      obtain ⟨W1, hW1⟩ : ∃ W1, W1 = wr.alloc (.cells #[.int .u32 (bp c : Int), .int .u32 (bt c : Int)] 150) := ⟨_, rfl⟩
      have hbw : Below wr.heap.size wr W1 := by rw [hW1]; exact below_alloc wr _
      have HR : Hid (UnR τ0 w1 o (undr (l.take i) v) τ' W1 A2 c2) := ⟨R.out.R.step (Step.of_below (fun _ => False) τ' hbw) id, R.out.T.trans (Step.of_below _ τ' hbw)⟩
      generalize bp c = P at *
      generalize bt c = T at *
      clear hc hc' hp1 hp2 ha1 ha2 HO1 HO2 hB2 hbw R hcm
      by_cases hv : v ∈ c
      · have hz : ¬ z3 = 0 := fun e => (HIN.out.1 e) hv
        have hzi : ¬ (z3 : Int) = 0 := by omega
        have hzb : ((z3 : Int) == 0) = false := beq_eq_false_iff_ne.2 hzi
        rw [if_pos hv] at HTK
        clear HIN hz hv
        go_wp2_with fail
        go_roundw
        case rel => exact ⟨i + 1, A2, c2, τ', by omega, by go_num, by rw [HTK.out], by rw [HTK.out, ← hW1]; exact HR.out⟩
        case measure => simp [intOf]; omega
      · have hz : z3 = 0 := HIN.out.2 hv
        rw [if_neg hv] at HTK
        clear HIN hv
        subst hz hW1
        generalize undr (l.take i) v = l2 at *
        have zt : Hid (Value.oneCell' (.int .u32 (bp c' : Int)) = true) := rfl
        go_wp2_with (at_builtin; refine wpList_append_lies _ rfl _ _ _ rfl 0 150 i0 _ 2 8 Tryz.underlying76 HI.out.1 HI.out.2.1 HI.out.2.2.1 HI.out.2.2.2 rfl (by omega) (.slice A2 l2.length c2) l2.length (mkCells l2) rfl (HR.out.R.1.alloc _) ⟨wr.heap.size + 1, 0, none⟩ 1 1 [.int .u32 (bp c' : Int), .int .u32 (bt c' : Int)] rfl rfl (World.news_of_block (cs := #[.int .u32 (bp c' : Int), .int .u32 (bt c' : Int)]) (t := 150) (fr := (0, 0)) (by have := new_heap (wr.alloc (.cells #[.int .u32 (P : Int), .int .u32 (T : Int)] 150)) (.cells #[.int .u32 (bp c' : Int), .int .u32 (bt c' : Int)] 150); simpa using this)) (by simp [Value.oneCell']) (by omega) (by unfold maxLen; omega) (by omega) (Nat.zero_le _) (wr.heap.size + 1 + 1) (by simp) ?_; intro g1 c1 wp hown1 hg1 hat1 hlt1; have HF := Lib.hid (HR.out.R.fin2 _ _ wp c1 g1 hg1 hown1 (by simpa using hat1)); clear hown1 hg1 hat1 hlt1)
        go_roundw
        case rel => exact ⟨i + 1, some ⟨g1, 0, none⟩, c1, _, by omega, by go_num, by rw [HTK.out]; simp, by rw [HTK.out]; exact ⟨by have := HF.out.1; rw [List.length_append]; unfold mkCells at this ⊢; rw [List.flatMap_append]; simpa using this, HR.out.T.trans HF.out.2⟩⟩
        case measure => simp [intOf]; omega
    · obtain rfl : i = l.length := by omega
      have hB := H.out.blk.step R.out.T (by omega)
      have HS := Lib.hid (H.out.setRoom ho R.out.T R.out.R)
      rw [List.take_length] at HS R ⊢
      have f2 : wr.cell? ⟨q, 2 + o, none⟩ = some (.slice A0 m0 cap0) := (hB.cell (2 + o)).trans (by rw [show (2 + o) = o + 1 + 1 by omega]; simpa using HVO.out)
      have f3 := hB.free (2 + o)
      have zq2 := hB.lt
      have HE := Lib.hid (show UnPost B τ w q o s M l v (.returned (.slice A2 (undr l v).length c2)) (wr.setCell ⟨q, 2 + o, none⟩ (.slice A2 (undr l v).length c2)) from ⟨τ', _, A2, c2, rfl, HS.out.1, MskAt.row HS.out.2.2, (K0.out.mono (fun _ h => h.elim)).trans HS.out.2.1⟩)
      clear hB
      go_wp2_with fail
      go_ret
      exact HE.out
end
end Go.Proofs.YtcebpbjpbnfacaaGreat
