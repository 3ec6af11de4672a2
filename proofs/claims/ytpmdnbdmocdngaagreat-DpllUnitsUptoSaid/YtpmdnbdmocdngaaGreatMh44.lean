/-
  Parts of the proof, joined: DpllC4, DpllC5.
-/
import Derived.Test.YtpmdnbdmocdngaaGreatMh43
import Derived.Deep.AppendLies
import Derived.BigRegion

namespace Go.Proofs.YtpmdnbdmocdngaaGreat
open Go.ChangeShapes Go.WideShapes Go.ChangeAt Go.RowKit
set_option linter.unusedVariables false
set_option linter.unusedSimpArgs false

theorem infoMsk : (Tryz.prog.info? 147).map (fun i => (i.zero, i.size, i.bytes)) = some (some (.agg #[.int .u32 0, .int .u32 0]), 2, 8) := by kernel_rfl
/-- A counter, and the rows that it has room in. -/
structure Ctr (B : Nat) (τ : Nat → Nat) (w : World) (q : Nat) (s M : Int) (vs : List Value) : Prop where
  base : B ≤ w.heap.size
  low : ∀ b, b < B → τ b = 0
  blk : Blk τ 9 w q 75 (.int .i64 s :: .int .i64 M :: vs).toArray
  len : vs.length = 24
  room : ∀ i v, vs[i]? = some v → ∃ m xs, RowN τ (10 + i) w 147 2 v m xs
/-- What is left of masks where a literal holds. -/
def undr (l : List (List Int)) (v : Int) : List (List Int) := (l.filter fun c => !(decide (v ∈ c))).map fun c => c.filter fun x => x != -v
theorem undr_snoc (l : List (List Int)) (c : List Int) (v : Int) : undr (l ++ [c]) v = if v ∈ c then undr l v else undr l v ++ [c.filter fun x => x != -v] := by
  unfold undr
  rw [List.filter_append, List.map_append]
  by_cases h : v ∈ c <;> simp [h]
theorem undr_len (l : List (List Int)) (v : Int) : (undr l v).length ≤ l.length := by unfold undr; rw [List.length_map]; exact List.length_filter_le _ _
section
variable {R : Nat → Prop} {B : Nat} {τ τ' : Nat → Nat} {w w' : World} {q : Nat} {s M : Int} {vs : List Value}
/-- A row is cut to nothing: its room stays. -/
theorem RowN.none_left {r : Nat} {e : TypeId} {m cap : Nat} {A : Option Addr} {xs : List Value} {sz : Nat} (h : RowN τ r w e sz (.slice A m cap) m xs) : RowN τ r w e sz (.slice A 0 cap) 0 [] := by
  refine ⟨⟨by simp, ?_⟩, fun g hg => h.2 g (by
    cases A with
    | none => simp [Value.ownBlock] at hg
    | some a => simpa [Value.ownBlock] using hg)⟩
  rcases h.1.2 with ⟨h0, h1⟩ | ⟨g, cap', cur, h0, hb, hg, h1, h2, h3, h4⟩
  · injection h0 with a b c
    exact .inl ⟨by rw [a, c], rfl⟩
  · injection h0 with a b c
    subst c
    exact .inr ⟨g, cap, cur, by rw [a], hb, hg, Nat.zero_le _, h2, h3, by simp⟩
theorem RowN.form {r : Nat} {e : TypeId} {m sz : Nat} {v : Value} {xs : List Value} (h : RowN τ r w e sz v m xs) : ∃ A cap, v = .slice A m cap ∧ m ≤ cap ∧ cap ≤ 9223372036854775807 := by
  rcases h.at with ⟨h0, h1⟩ | ⟨g, cap, cur, h0, hb, h1, h2, _⟩
  · exact ⟨none, 0, by rw [h0, h1], by omega, by omega⟩
  · exact ⟨_, cap, h0, h1, h2⟩
/-- One element more at the end. -/
theorem RowN.fin2 {r : Nat} {e : TypeId} {m cap : Nat} {A : Option Addr} {xs : List Value} (h : RowN τ r w e 2 (.slice A m cap) m xs) (a b : Value) : ∀ (wp : World) (c g1 : Nat), (w.alloc (.cells #[a, b] e)).grownBy wp (Value.slice A m cap).ownBlock → wp.ownsRow 0 e 2 (.slice (some ⟨g1, 0, none⟩) (m + 1) c) (m + 1) (xs ++ [a, b]) → ((Value.slice A m cap).ownBlock = some g1 ∨ g1 = w.heap.size + 1) →
    RowN (fun x => if x = g1 then r else τ x) r wp e 2 (.slice (some ⟨g1, 0, none⟩) (m + 1) c) (m + 1) (xs ++ [a, b]) ∧ Step (fun k => k = r) τ (fun x => if x = g1 then r else τ x) w wp := fun wp c g1 hg hown hat => by
  have b1 : Below w.heap.size w (w.alloc (.cells #[a, b] e)) := (Below.refl _ _).alloc (Nat.le_refl _) _
  have s1 : Step (fun k => k = r) τ τ w (w.alloc (.cells #[a, b] e)) := Step.of_below _ τ b1
  have s2 : Step (fun k => k = r) τ (fun x => if x = g1 then r else τ x) (w.alloc (.cells #[a, b] e)) wp := Step.of_grown hg (fun x hx => h.2 x hx) (hat.imp (fun e => h.2 g1 e) (fun e => by simp; omega)) rfl
  exact ⟨⟨hown, fun x hx => by injection hx with hx; subst hx; simp⟩, s1.trans s2⟩
theorem Ctr.step (h : Ctr B τ w q s M vs) (k : Step R τ τ' w w') (h9 : ¬ R 9) (hr : ∀ i, i < 24 → ¬ R (10 + i)) (h0 : ¬ R 0) : Ctr B τ' w' q s M vs :=
  ⟨Nat.le_trans h.base k.kept.size, fun b hb => (k.tag b (Nat.lt_of_lt_of_le hb h.base)).trans (h.low b hb), h.blk.step k h9, h.len, fun i v hv => by
    obtain ⟨m, xs, r⟩ := h.room i v hv
    exact ⟨m, xs, r.step k (hr i (by have := (List.getElem?_eq_some_iff.1 hv).1; have := h.len; omega))⟩⟩
/-- A row has turned, and its head is written. -/
theorem Ctr.setRoom (h : Ctr B τ w q s M vs) {o : Nat} (ho : o < 24) (k : Step (fun r => r = 10 + o) τ τ' w w') {v : Value} {m : Nat} {xs : List Value} (hv : RowN τ' (10 + o) w' 147 2 v m xs) :
    Ctr B τ' (w'.setCell ⟨q, 2 + o, none⟩ v) q s M (vs.set o v) ∧ Step (fun r => r = 9 ∨ r = 10 + o) τ τ' w (w'.setCell ⟨q, 2 + o, none⟩ v) ∧ RowN τ' (10 + o) (w'.setCell ⟨q, 2 + o, none⟩ v) 147 2 v m xs := by
  have b' := h.blk.step k (by omega)
  have s2 : Step (fun r => r = 9) τ' τ' w' (w'.setCell ⟨q, 2 + o, none⟩ v) := Step.set _ _ b'.2
  have hv' := hv.step s2 (by omega)
  refine ⟨⟨?_, fun b hb => (k.tag b (Nat.lt_of_lt_of_le hb h.base)).trans (h.low b hb), ?_, by rw [List.length_set]; exact h.len, fun i x hx => ?_⟩, (k.mono fun r hr => .inr hr).trans (s2.mono fun r hr => .inl hr), hv'⟩
  · exact Nat.le_trans h.base (Nat.le_trans k.kept.size s2.kept.size)
  · have := b'.put (2 + o) v
    have e : ((.int .i64 s :: .int .i64 M :: vs).toArray).setIfInBounds (2 + o) v = (.int .i64 s :: .int .i64 M :: vs.set o v).toArray := by
      rw [List.setIfInBounds_toArray, show 2 + o = o + 1 + 1 by omega]; rfl
    rw [e] at this; exact this
  · rw [List.getElem?_set] at hx
    split at hx
    · rename_i e
      subst e
      rw [if_pos (by rw [h.len]; exact ho)] at hx
      injection hx with hx; subst hx
      exact ⟨m, xs, hv'⟩
    · rename_i e
      obtain ⟨m2, xs2, r2⟩ := h.room i x hx
      exact ⟨m2, xs2, (r2.step k (by omega)).step s2 (by omega)⟩
end
/-- What under answers. -/
def UnPost (B : Nat) (τ : Nat → Nat) (w : World) (q o : Nat) (s M : Int) (l : List (List Int)) (v : Int) (e : Ending) (w' : World) : Prop :=
  ∃ τ' vs' A cap, e = .returned (.slice A (undr l v).length cap) ∧ Ctr B τ' w' q s M vs' ∧ MskAt τ' w' (10 + o) A (undr l v) ∧ Step (fun r => r = 9 ∨ r = 10 + o) τ τ' w w'
structure UnR (τ : Nat → Nat) (w : World) (o : Nat) (l : List (List Int)) (τ' : Nat → Nat) (wr : World) (A : Option Addr) (cap : Nat) : Prop where
  R : RowN τ' (10 + o) wr 147 2 (.slice A l.length cap) l.length (mkCells l)
  T : Step (fun r => r = 10 + o) τ τ' w wr
section
variable {B : Nat} {τ : Nat → Nat} {w : World} {q o n : Nat} {s M : Int} {vs : List Value} {r : Nat} {A : Option Addr} {l : List (List Int)} {cap : Nat}
set_option maxHeartbeats 3200000 in
set_option maxRecDepth 4000 in
theorem under_any (h : Ctr B τ w q s M vs) (ho : o < 24) (hn : n ≤ 24) (hl : MskAt τ w r A l) (hr : r ≠ 9 ∧ r ≠ 10 + o) (hok : ∀ c ∈ l, ∀ x ∈ c, LOk n x) (hb : l.length ≤ 100000) {v : Int} (okv : LOk n v) :
    Calls Tryz.prog 71 #[.pointer (some ⟨q, 0, none⟩), .slice A l.length cap, .agg #[.int .u32 (lp v : Int), .int .u32 (lt1 v : Int)], .int .i64 (o : Int)] w (UnPost B τ w q o s M l v) := by
  obtain ⟨vo, hvo⟩ : ∃ v, vs[o]? = some v := ⟨_, List.getElem?_eq_getElem (by rw [h.len]; exact ho)⟩
  obtain ⟨m0, xs0, R0⟩ := h.room o vo hvo
  obtain ⟨A0, cap0, rfl, c1, c2⟩ := R0.form
  have f1 : w.cell? ⟨q, 2 + o, none⟩ = some (.slice A0 m0 cap0) := by
    rw [h.blk.cell, show (2 + o) = o + 1 + 1 by omega]
    simpa using hvo
  have zq := h.blk.lt
  have HVO := Lib.hid hvo
  have b1 : (0 : Int) ≤ (o : Int) := by omega
  have b2 : (o : Int) < 24 := by omega
  obtain ⟨τ0, hτ0⟩ : ∃ τ0 : Nat → Nat, τ0 = fun b => if b = w.heap.size then 8 else τ b := ⟨_, rfl⟩
  obtain ⟨w1, hw1⟩ : ∃ w1, w1 = w.alloc (.cells #[.int .u32 (lp v : Int), .int .u32 (lt1 v : Int)] 147) := ⟨_, rfl⟩
  have hb1 : Below w.heap.size w w1 := by rw [hw1]; exact below_alloc w _
  have k0 : Step (fun _ => False) τ τ0 w w1 := ⟨(Step.of_below (fun _ => False) τ hb1).kept, fun b hb => by rw [hτ0]; exact if_neg (by omega)⟩
  have BX : Hid (Blk τ0 8 w1 w.heap.size 147 #[.int .u32 (lp v : Int), .int .u32 (lt1 v : Int)]) := ⟨by rw [hw1]; exact new_heap w _, by rw [hτ0]; exact if_pos rfl⟩
  have H := Lib.hid (h.step k0 id (fun _ _ => id) id)
  have HL := Lib.hid (hl.step k0 id)
  have R1 : Hid (UnR τ0 w1 o (undr (l.take 0) v) τ0 w1 A0 cap0) := ⟨R0.none_left.step k0 id, Step.refl _ _ _⟩
  have K0 := Lib.hid k0
  have f1 : w1.cell? ⟨q, 2 + o, none⟩ = some (.slice A0 m0 cap0) := (hb1.cell (p := ⟨q, 2 + o, none⟩) zq).trans f1
  have hsz : w1.heap.size = w.heap.size + 1 := by rw [hw1]; simp
  have HOK := Lib.hid hok
  have hll := lit_lt hn okv
  obtain ⟨X, hX⟩ : ∃ X, lp v = X := ⟨_, rfl⟩
  obtain ⟨Y, hY⟩ : ∃ Y, lt1 v = Y := ⟨_, rfl⟩
  have HXY := Lib.hid (And.intro hX hY)
  rw [hX, hY] at hw1 BX hll ⊢
  obtain ⟨i0, hi0, hz0, hz1, hz2⟩ := info_parts infoMsk
  have HI := Lib.hid (show _ ∧ _ ∧ _ ∧ _ from ⟨hi0, hz0, hz1, hz2⟩)
  clear hi0 hz0 hz1 hz2 h hl R0 hvo hX hY hb1 k0 hτ0 hok
  go_enter Tryz.func71, Tryz.ntmps71
  go_wp2_with fail
  rw [← hw1]
  go_loopw [9, 21] (fun rv iv wr => ∃ (i : Nat) (A2 : Option Addr) (c2 : Nat) (τ' : Nat → Nat), i ≤ l.length ∧ iv = .int .i64 i ∧ rv = .slice A2 (undr (l.take i) v).length c2 ∧ Hid (UnR τ0 w1 o (undr (l.take i) v) τ' wr A2 c2)) (fun _ iv _ => l.length - (intOf iv).toNat)
  case atStart => exact ⟨0, A0, cap0, τ0, Nat.zero_le _, rfl, rfl, R1⟩
  case round =>
    obtain ⟨i, A2, c2, τ', hi, rfl, rfl, R⟩ := hrel
    clear R1 f1
    by_cases hlt : i < l.length
    · obtain ⟨c, hc⟩ : ∃ c, l[i]? = some c := ⟨_, List.getElem?_eq_getElem hlt⟩
      obtain ⟨g, rfl, hgt, y0, y1, zg⟩ := (HL.out.step R.out.T (by omega)) i c hc
      have hB2 := BX.out.step R.out.T (by omega)
      have hcm := HOK.out c (List.mem_of_getElem? hc)
      have HIN := Lib.hid (mask_in (c := c) (v := v) (fun x hx => (hcm x hx).1) okv.1)
      have HO1 := Lib.hid (bp_out hn hcm okv)
      have HO2 := Lib.hid (bt_out hn hcm okv)
      have hp1 := bp_lt hn c hcm
      have hp2 := bt_lt hn c hcm
      have HTK := Lib.hid (show undr (l.take (i + 1)) v = if v ∈ c then undr (l.take i) v else undr (l.take i) v ++ [c.filter fun x => x != -v] by
        obtain ⟨h1, h2⟩ := List.getElem?_eq_some_iff.1 hc
        rw [List.take_succ_eq_append_getElem h1, h2]; exact undr_snoc _ _ _)
      rw [HXY.out.1, HXY.out.2] at HIN
      rw [HXY.out.2] at HO1
      rw [HXY.out.1] at HO2
      have e1 : bits .and .u32 (bp c : Int) (X : Int) = ((bp c &&& X : Nat) : Int) := u32_and_nat _ _ (by omega) (by omega)
      have e2 : bits .and .u32 (bt c : Int) (Y : Int) = ((bt c &&& Y : Nat) : Int) := u32_and_nat _ _ (by omega) (by omega)
      have ha1 : bp c &&& X < 2 ^ 24 := Nat.and_lt_two_pow _ hll.1
      have ha2 : bt c &&& Y < 2 ^ 24 := Nat.and_lt_two_pow _ hll.2
      have e3 : bits .or .u32 ((bp c &&& X : Nat) : Int) ((bt c &&& Y : Nat) : Int) = (((bp c &&& X) ||| (bt c &&& Y) : Nat) : Int) := u32_or_nat _ _ (by omega) (by omega)
      have e4 : bits .andNot .u32 (bp c : Int) (Y : Int) = (bp (c.filter fun x => x != -v) : Int) := by rw [u32_andNot_nat _ _ (by omega) (by omega), HO1.out]
      have e5 : bits .andNot .u32 (bt c : Int) (X : Int) = (bt (c.filter fun x => x != -v) : Int) := by rw [u32_andNot_nat _ _ (by omega) (by omega), HO2.out]
      generalize (bp c &&& X) ||| (bt c &&& Y) = z3 at *
      generalize bp c &&& X = z1 at *
      generalize bt c &&& Y = z2 at *
      obtain ⟨c', hc'⟩ : ∃ c', (c.filter fun x => x != -v) = c' := ⟨_, rfl⟩
      rw [hc'] at e4 e5 HTK
      have x0 := hB2.cell 0
      have x1 := hB2.cell 1
      have zx := hB2.lt
      have hul : (undr (l.take i) v).length ≤ 100000 := by
        have := undr_len (l.take i) v
        rw [List.length_take] at this; omega
      have b3 : (0 : Int) ≤ (i : Int) := by omega
      have b4 : (i : Int) < (l.length : Int) := by omega
      obtain ⟨W1, hW1⟩ : ∃ W1, W1 = wr.alloc (.cells #[.int .u32 (bp c : Int), .int .u32 (bt c : Int)] 147) := ⟨_, rfl⟩
      have hbw : Below wr.heap.size wr W1 := by rw [hW1]; exact below_alloc wr _
      have HR : Hid (UnR τ0 w1 o (undr (l.take i) v) τ' W1 A2 c2) := ⟨R.out.R.step (Step.of_below (fun _ => False) τ' hbw) id, R.out.T.trans (Step.of_below _ τ' hbw)⟩
      generalize bp c = P at *
      generalize bt c = T at *
      clear hc hc' hp1 hp2 ha1 ha2 HO1 HO2 hB2 hbw R hcm
      by_cases hv : v ∈ c
      · have hz : ¬ z3 = 0 := fun e => (HIN.out.1 e) hv
        have hzi : ¬ (z3 : Int) = 0 := by omega
        have hzb : ((z3 : Int) == 0) = false := beq_eq_false_iff_ne.2 hzi
        rw [if_pos hv] at HTK
        clear HIN hz hv
        go_wp2_with fail
        go_roundw
        case rel => exact ⟨i + 1, A2, c2, τ', by omega, by go_num, by rw [HTK.out], by rw [HTK.out, ← hW1]; exact HR.out⟩
        case measure => simp [intOf]; omega
      · have hz : z3 = 0 := HIN.out.2 hv
        rw [if_neg hv] at HTK
        clear HIN hv
        subst hz hW1
        generalize undr (l.take i) v = l2 at *
        have zt : Hid (Value.oneCell' (.int .u32 (bp c' : Int)) = true) := rfl
        go_wp2_with (at_builtin; refine wpList_append_lies _ rfl _ _ _ rfl 0 147 i0 _ 2 8 Tryz.underlying72 HI.out.1 HI.out.2.1 HI.out.2.2.1 HI.out.2.2.2 rfl (by omega) (.slice A2 l2.length c2) l2.length (mkCells l2) rfl (HR.out.R.1.alloc _) ⟨wr.heap.size + 1, 0, none⟩ 1 1 [.int .u32 (bp c' : Int), .int .u32 (bt c' : Int)] rfl rfl (World.news_of_block (cs := #[.int .u32 (bp c' : Int), .int .u32 (bt c' : Int)]) (t := 147) (fr := (0, 0)) (by have := new_heap (wr.alloc (.cells #[.int .u32 (P : Int), .int .u32 (T : Int)] 147)) (.cells #[.int .u32 (bp c' : Int), .int .u32 (bt c' : Int)] 147); simpa using this)) (by simp [Value.oneCell']) (by omega) (by unfold maxLen; omega) (by omega) (Nat.zero_le _) (wr.heap.size + 1 + 1) (by simp) ?_; intro g1 c1 wp hown1 hg1 hat1 hlt1; have HF := Lib.hid (HR.out.R.fin2 _ _ wp c1 g1 hg1 hown1 (by simpa using hat1)); clear hown1 hg1 hat1 hlt1)
        go_roundw
        case rel => exact ⟨i + 1, some ⟨g1, 0, none⟩, c1, _, by omega, by go_num, by rw [HTK.out]; simp, by rw [HTK.out]; exact ⟨by have := HF.out.1; rw [List.length_append]; unfold mkCells at this ⊢; rw [List.flatMap_append]; simpa using this, HR.out.T.trans HF.out.2⟩⟩
        case measure => simp [intOf]; omega
    · obtain rfl : i = l.length := by omega
      have hB := H.out.blk.step R.out.T (by omega)
      have HS := Lib.hid (H.out.setRoom ho R.out.T R.out.R)
      rw [List.take_length] at HS R ⊢
      have f2 : wr.cell? ⟨q, 2 + o, none⟩ = some (.slice A0 m0 cap0) := (hB.cell (2 + o)).trans (by rw [show (2 + o) = o + 1 + 1 by omega]; simpa using HVO.out)
      have f3 := hB.free (2 + o)
      have zq2 := hB.lt
      have HE := Lib.hid (show UnPost B τ w q o s M l v (.returned (.slice A2 (undr l v).length c2)) (wr.setCell ⟨q, 2 + o, none⟩ (.slice A2 (undr l v).length c2)) from ⟨τ', _, A2, c2, rfl, HS.out.1, MskAt.row HS.out.2.2, (K0.out.mono (fun _ h => h.elim)).trans HS.out.2.1⟩)
      clear hB
      go_wp2_with fail
      go_ret
      exact HE.out
end
end Go.Proofs.YtpmdnbdmocdngaaGreat

namespace Go.Proofs.YtpmdnbdmocdngaaGreat
open Go.ChangeShapes Go.WideShapes Go.ChangeAt Go.RowKit
set_option linter.unusedVariables false
set_option linter.unusedSimpArgs false

def CnPost (B : Nat) (τ : Nat → Nat) (w : World) (q o : Nat) (s M : Int) (k : Nat) (e : Ending) (w' : World) : Prop :=
  e = .returned (.tuple #[]) ∧ ∃ τ' vs', Ctr B τ' w' q (min M (s + k)) M vs' ∧ Step (fun r => r = 9 ∨ (10 ≤ r ∧ r < 10 + o)) τ τ' w w'
theorem Ctr.cells {B : Nat} {τ : Nat → Nat} {w : World} {q : Nat} {s M : Int} {vs : List Value} (h : Ctr B τ w q s M vs) : w.cell? ⟨q, 0, none⟩ = some (.int .i64 s) ∧ w.cell? ⟨q, 1, none⟩ = some (.int .i64 M) ∧ w.frozen? ⟨q, 0, none⟩ = false := ⟨h.blk.cell 0, h.blk.cell 1, h.blk.free 0⟩
theorem Ctr.sum {B : Nat} {τ : Nat → Nat} {w : World} {q : Nat} {s M : Int} {vs : List Value} (h : Ctr B τ w q s M vs) (s' : Int) : Ctr B τ (w.setCell ⟨q, 0, none⟩ (.int .i64 s')) q s' M vs ∧ Step (fun r => r = 9) τ τ w (w.setCell ⟨q, 0, none⟩ (.int .i64 s')) := by
  have k : Step (fun r => r = 9) τ τ w (w.setCell ⟨q, 0, none⟩ (.int .i64 s')) := Step.set _ _ h.blk.2
  refine ⟨⟨Nat.le_trans h.base k.kept.size, h.low, ?_, h.len, fun i v hv => ?_⟩, k⟩
  · have := h.blk.put 0 (.int .i64 s')
    rw [List.setIfInBounds_toArray] at this; exact this
  · obtain ⟨m, xs, r⟩ := h.room i v hv
    exact ⟨m, xs, r.step k (by omega)⟩
theorem w64_small (x : Int) (h0 : 0 ≤ x) (h1 : x ≤ 33554432) : wrap64 x = x := by unfold wrap64; omega
theorem w64_pow {o K : Nat} (hK : 2 ^ o = K) (h : K ≤ 16777216) : wrap64 ((2 : Int) ^ o) = (K : Int) := by
  have e : ((2 ^ o : Nat) : Int) = (2 : Int) ^ o := Int.natCast_pow 2 o
  rw [← e, hK]
  exact w64_small _ (by omega) (by omega)
/-- The literal of a bit of a clause. -/
theorem bit_lit {n : Nat} {f : List (List Int)} {t : List Int} (okf : FOk n f) {c : List Int} (hc : c ∈ rests f t) {k : Nat} (h : (bp c ||| bt c).testBit k = true) : LOk n ((k : Int) + 1) ∧ wo t ((k : Int) + 1) = 0 := by
  have hl := rests_lit okf hc
  rw [Nat.testBit_or, bp_bit, bt_bit k c fun y hy => (hl y hy).1.1, Bool.or_eq_true, decide_eq_true_eq, decide_eq_true_eq] at h
  rcases h with h | h
  · exact hl _ h
  · obtain ⟨a, b⟩ := hl _ h
    have a' := a.neg
    rw [Int.neg_neg] at a'
    refine ⟨a', ?_⟩
    have := wo_opp (t := t) a'
    omega
theorem ix0 (W : World) (a b c d : Int) : (Instr.index 151 (.agg #[.int .u32 a, .int .u32 b, .int .u32 c, .int .u32 d]) (.int .i64 0)).run Tryz.prog W = .ok (.agg #[.int .u32 a, .int .u32 b]) W := by kernel_rfl
theorem ix1 (W : World) (a b c d : Int) : (Instr.index 151 (.agg #[.int .u32 a, .int .u32 b, .int .u32 c, .int .u32 d]) (.int .i64 1)).run Tryz.prog W = .ok (.agg #[.int .u32 c, .int .u32 d]) W := by kernel_rfl
section
variable {B q n : Nat} {M : Int} {f : List (List Int)}
set_option maxHeartbeats 6400000 in
set_option maxRecDepth 4000 in
theorem count_any (okf : FOk n f) (hn : n ≤ 24) (hM : M ≤ 9223372036854775807) (hfl : f.length ≤ 100000) : ∀ (o : Nat) (τ : Nat → Nat) (w : World) (vs : List Value) (s : Int) (r : Nat) (A : Option Addr) (t : List Int) (cap : Nat), Ctr B τ w q s M vs → MskAt τ w r A (rests f t) → r ≠ 9 → ¬ (10 ≤ r ∧ r < 10 + o) → TV n t → t.count 0 = o → 0 ≤ s → s ≤ M → s + (sols n f t).length ≤ 16777216 → (rests f t).length ≤ 100000 →
    Calls Tryz.prog 34 #[.pointer (some ⟨q, 0, none⟩), .slice A (rests f t).length cap, .int .i64 (o : Int)] w (CnPost B τ w q o s M (sols n f t).length) := by
  intro o
  induction o using Nat.strongRecOn with
  | ind o ih =>
    intro τ w vs s r A t cap H HL hr9 hr10 ht hz hs0 hsM hsum hlen
    obtain ⟨x0, x1, f0⟩ := H.cells
    have zq := H.blk.lt
    have hok : ∀ c ∈ rests f t, ∀ x ∈ c, LOk n x := fun c hc x hx => (rests_lit okf hc x hx).1
    have hzn : o ≤ n := by rw [← hz, ← ht.1]; exact List.count_le_length
    by_cases hsm : s = M
    · have HE : Hid (∀ W, Below w.heap.size w W → CnPost B τ w q o s M (sols n f t).length (.returned (.tuple #[])) W) := fun W b => ⟨rfl, τ, vs, by rw [show min M (s + ((sols n f t).length : Int)) = s by omega]; exact H.step (Step.of_below (fun _ => False) τ b) id (fun _ _ => id) id, Step.of_below _ τ b⟩
      have hb : (s == M) = true := by rw [hsm]; simp
      clear hsum H HL hsm ih hok hlen
      go_enter Tryz.func34, Tryz.ntmps34
      go_wp2_with fail
      go_quiet (fail)
      go_wp2_with fail
      refine bodyPost_ret (results_none rfl _ _ _) rfl ?_
      exact HE.out _ (Below.draws (Below.refl _ _) _)
    · have hb : (s == M) = false := beq_eq_false_iff_ne.2 hsm
      by_cases hl0 : rests f t = []
      · have hk := sols_free okf (by omega) o t ht hz hl0
        rw [hk] at hsum
        have hp : 2 ^ o ≤ 16777216 := Nat.pow_le_pow_right (n := 2) (by decide) (show o ≤ 24 by omega)
        obtain ⟨K, hK⟩ : ∃ K : Nat, 2 ^ o = K := ⟨_, rfl⟩
        rw [hK] at hk hsum hp
        have HE : Hid (∀ W : World, W.heap = w.heap → W.os = w.os → W.tape = w.tape → W.output = w.output → CnPost B τ w q o s M (sols n f t).length (.returned (.tuple #[])) (W.setCell ⟨q, 0, none⟩ (.int .i64 (min M (s + (K : Int)))))) := fun W e1 e2 e3 e4 => by
          have b : Below w.heap.size w W := ⟨e2, e3, e4, by rw [e1]; exact Nat.le_refl _, fun k _ => by rw [e1]⟩
          obtain ⟨a, c⟩ := (H.step (Step.of_below (fun _ => False) τ b) id (fun _ _ => id) id).sum (min M (s + (K : Int)))
          exact ⟨rfl, τ, vs, by rw [hk]; exact a, (Step.of_below _ τ b).trans (c.mono fun _ h => .inl h)⟩
        have HW1 := Lib.hid (w64_pow hK (by omega))
        have HW2 := Lib.hid (w64_small (s + (K : Int)) (by omega) (by omega))
        clear hK hp hsum
        rw [hl0]
        clear H HL hsm ih hok hlen hk hl0
        go_enter Tryz.func34, Tryz.ntmps34
        go_wp2_with fail
        go_quiet (fail)
        go_wp2_with fail
        go_region
        rw [HW1.out, HW2.out]
        go_wp2_with fail
        refine bodyPost_ret (results_none rfl _ _ _) rfl ?_
        exact HE.out _ rfl rfl rfl rfl
      · obtain ⟨c0, hc0⟩ : ∃ c, (rests f t)[0]? = some c := ⟨_, List.getElem?_eq_getElem (List.length_pos_iff.2 hl0)⟩
        have hlp : 0 < (rests f t).length := List.length_pos_iff.2 hl0
        have CS := Lib.hid (fun (W : World) (b : Below w.heap.size w W) => shortest_any (cap := cap) hn (HL.step (Step.of_below (fun _ => False) τ b) id) hok hlp (by omega))
        have hnl : ¬ ((rests f t).length : Int) = 0 := by omega
        have hnb : (((rests f t).length : Int) == 0) = false := beq_eq_false_iff_ne.2 hnl
        have HH := Lib.hid H
        have HHL := Lib.hid HL
        have HOK := Lib.hid hok
        have HIH := Lib.hid ih
        obtain ⟨k, hk⟩ : ∃ k, (sols n f t).length = k := ⟨_, rfl⟩
        have HK := Lib.hid hk
        rw [hk] at hsum ⊢
        clear H HL ih hok hl0 hc0 hsm hk
        go_enter Tryz.func34, Tryz.ntmps34
        go_wp2_with fail
        go_quiet (fail)
        go_wp2_with fail
        (with_reducible refine (CS.out _ (Below.draws (Below.refl _ _) _)).mono ?_)
        rintro e w1 ⟨⟨c, hc, rfl⟩, b1⟩
        have B1 := Lib.hid ((Below.draws (Below.refl w.heap.size w) nq).trans b1)
        clear b1 CS
        have CZ := Lib.hid (fun W => show Calls Tryz.prog 69 #[.agg #[.int .u32 (bp c : Int), .int .u32 (bt c : Int)]] W _ from size_any hn (HOK.out c hc) W)
        have CL := Lib.hid (fun (hne : c ≠ []) W => show Calls Tryz.prog 70 #[.agg #[.int .u32 (bp c : Int), .int .u32 (bt c : Int)]] W _ from lowest_any hn (HOK.out c hc) hne W)
        have HBT := Lib.hid (fun k => bit_lit okf hc (k := k))
        have HC := Lib.hid hc
        clear hc
        go_wp2_with fail
        (with_reducible refine (CZ.out _).mono ?_)
        rintro e w2 ⟨⟨z, rfl, z0, z1, z2⟩, b2⟩
        have h6 : HasB w2 w1.heap.size 147 #[.int .u32 (bp c : Int), .int .u32 (bt c : Int)] := (b2.block _ (by simp)).trans (new_heap w1 _)
        have x6 := h6.cell 0
        have x7 := h6.cell 1
        have z6 := lt_of_heap h6
        have B2 := Lib.hid (Below.on (Below.plus B1.out _) b2)
        clear b2 h6 CZ
        by_cases hcn : c = []
        · have hz0 : z = 0 := z2.2 hcn
          have HE : Hid (∀ W, Below w.heap.size w W → CnPost B τ w q o s M k (.returned (.tuple #[])) W) := fun W b => by
            have h0 := sols_gone okf (by omega) ht (hcn ▸ HC.out)
            have hk0 : k = 0 := by rw [← HK.out, h0]; rfl
            exact ⟨rfl, τ, vs, by rw [show min M (s + (k : Int)) = s by rw [hk0]; omega]; exact HH.out.step (Step.of_below (fun _ => False) τ b) id (fun _ _ => id) id, Step.of_below _ τ b⟩
          clear z2 hcn CL HBT HC z0 z1
          subst hz0
          go_wp2_with fail
          refine bodyPost_ret (results_none rfl _ _ _) rfl ?_
          exact HE.out _ B2.out
        · have hz1 : ¬ z = 0 := fun e => hcn (z2.1 e)
          have hz2 : (z == 0) = false := beq_eq_false_iff_ne.2 hz1
          have CL2 := Lib.hid (CL.out hcn)
          clear z2 hcn CL z0 z1
          go_wp2_with fail
          (with_reducible refine (CL2.out _).mono ?_)
          rintro e w3 ⟨⟨kb, rfl, hbit⟩, b3⟩
          obtain ⟨okv, hov⟩ := HBT.out kb hbit
          have B3 := Lib.hid (Below.on B2.out b3)
          obtain ⟨Z, hZ⟩ : ∃ Z : Nat, 2 ^ kb = Z := ⟨_, rfl⟩
          have HZ := Lib.hid hZ
          rw [hZ]
          clear b3 hbit CL2 hZ HBT
          go_wp2_with fail
          obtain ⟨v, hv⟩ : ∃ v : Int, (kb : Int) + 1 = v := ⟨_, rfl⟩
          rw [hv] at okv hov
          have hov' : wo t (-v) = 0 := by rw [wo_opp okv, hov]; rfl
          obtain ⟨o', ho'⟩ : ∃ o', o = o' + 1 := ⟨o - 1, by have := count_set ht okv hov; omega⟩
          have HO := Lib.hid ho'
          obtain ⟨k1, hk1⟩ : ∃ k, (sols n f (setL t v)).length = k := ⟨_, rfl⟩
          obtain ⟨k2, hk2⟩ : ∃ k, (sols n f (setL t (-v))).length = k := ⟨_, rfl⟩
          have HKK := Lib.hid (show (sols n f (setL t v)).length = k1 ∧ (sols n f (setL t (-v))).length = k2 ∧ k = k1 + k2 from ⟨hk1, hk2, by rw [← HK.out, sols_both ht okv hov, hk1, hk2]⟩)
          have HV := Lib.hid (show (LOk n v ∧ wo t v = 0 ∧ lp v = Z ∧ lt1 v = 0) ∧ LOk n (-v) ∧ wo t (-v) = 0 ∧ lp (-v) = 0 ∧ lt1 (-v) = Z from by
            have a1 : lp v = Z ∧ lt1 v = 0 ∧ lp (-v) = 0 ∧ lt1 (-v) = Z := by
              rw [← HZ.out, ← hv]
              unfold lp lt1
              rw [if_pos (by omega), if_pos (by omega), if_neg (by omega), if_neg (by omega), show ((kb : Int) + 1 - 1).toNat = kb by omega, show (-(-((kb : Int) + 1)) - 1).toNat = kb by omega]
              exact ⟨rfl, rfl, rfl, rfl⟩
            exact ⟨⟨okv, hov, a1.1, a1.2.1⟩, okv.neg, hov', a1.2.2.1, a1.2.2.2⟩)
          have hwo : IntKind.i64.wrap ((o : Int) - 1) = (o' : Int) := by rw [IntKind.wrap_i64]; omega
          have hRr : ¬ (r = 9 ∨ (10 ≤ r ∧ r < 10 + o)) := by omega
          have R0 : Hid (Ctr B τ w3 q (min M (s + (0 : Nat))) M vs ∧ Step (fun r => r = 9 ∨ (10 ≤ r ∧ r < 10 + o)) τ τ w w3) := ⟨by rw [show min M (s + ((0 : Nat) : Int)) = s by omega]; exact HH.out.step (Step.of_below (fun _ => False) τ B3.out) id (fun _ _ => id) id, Step.of_below _ τ B3.out⟩
          have hix0 := fun W => ix0 W (Z : Int) 0 0 (Z : Int)
          have hix1 := fun W => ix1 W (Z : Int) 0 0 (Z : Int)
          clear hk1 hk2 hv okv hov hov' x0 x1 f0 x6 x7 z6 ho'
          go_loopw [49] (fun iv wr => ∃ (i : Nat) (τr : Nat → Nat) (vsr : List Value), iv = .int .i64 i ∧ i ≤ 2 ∧ Hid (Ctr B τr wr q (min M (s + ((if i = 0 then 0 else if i = 1 then k1 else k : Nat) : Int))) M vsr ∧ Step (fun r => r = 9 ∨ (10 ≤ r ∧ r < 10 + o)) τ τr w wr)) (fun iv _ => 2 - (intOf iv).toNat)
          case atStart => exact ⟨0, τ, vs, rfl, by omega, R0⟩
          case round =>
            obtain ⟨i, τr, vsr, rfl, hi, R⟩ := hrel
            clear R0
            rcases (show i = 0 ∨ i = 1 ∨ i = 2 by omega) with rfl | rfl | rfl
            · have CU := Lib.hid (show Calls Tryz.prog 71 #[.pointer (some ⟨q, 0, none⟩), .slice A (rests f t).length cap, .agg #[.int .u32 (Z : Int), .int .u32 0], .int .i64 (o' : Int)] (wr.alloc (.cells #[.int .u32 (Z : Int), .int .u32 0] 147)) _ from by
                have := under_any (cap := cap) (R.out.1.step (Step.of_below (fun _ => False) τr (below_alloc wr (.cells #[.int .u32 (Z : Int), .int .u32 0] 147))) id (fun _ _ => id) id) (o := o') (by have := HO.out; omega) hn ((HHL.out.step R.out.2 hRr).step (Step.of_below (fun _ => False) τr (below_alloc wr _)) id) ⟨hr9, by have := HO.out; omega⟩ HOK.out hlen HV.out.1.1
                rw [HV.out.1.2.2.1, HV.out.1.2.2.2] at this
                exact this)
              go_wp2_with fail
              (with_reducible refine CU.out.mono ?_)
              rintro e w5 ⟨τ5, vs5, A5, cap5, rfl, c5, m5, k5⟩
              have CI := Lib.hid (show Calls Tryz.prog 34 #[.pointer (some ⟨q, 0, none⟩), .slice A5 (undr (rests f t) v).length cap5, .int .i64 (o' : Int)] w5 (CnPost B τ5 w5 q o' (min M (s + (0 : Nat))) M k1) from by
                have er : rests f (setL t v) = undr (rests f t) v := rests_set ht HV.out.1.1 HV.out.1.2.1 okf
                have := HIH.out o' (by have := HO.out; omega) τ5 w5 vs5 (min M (s + (0 : Nat))) (10 + o') A5 (setL t v) cap5 c5 (by rw [er]; exact m5) (by omega) (by omega) (setL_tv ht HV.out.1.1) (by have := count_set ht HV.out.1.1 HV.out.1.2.1; have := HO.out; omega) (by omega) (by omega) (by rw [HKK.out.1]; have := HKK.out.2.2; omega) (by rw [er]; exact Nat.le_trans (undr_len _ _) hlen)
                rw [er, HKK.out.1] at this
                exact this)
              have K5 := Lib.hid (R.out.2.trans ((Step.of_below _ τr (below_alloc wr (.cells #[.int .u32 (Z : Int), .int .u32 0] 147))).trans (k5.mono (R' := fun r => r = 9 ∨ (10 ≤ r ∧ r < 10 + o)) (fun r h => by have := HO.out; omega))))
              clear c5 m5 k5 CU
              go_wp2_with fail
              (with_reducible refine CI.out.mono ?_)
              rintro e w6 ⟨rfl, τ6, vs6, c6, k6⟩
              have HR : Hid (Ctr B τ6 w6 q (min M (s + (k1 : Nat))) M vs6 ∧ Step (fun r => r = 9 ∨ (10 ≤ r ∧ r < 10 + o)) τ τ6 w w6) := ⟨by
                rw [show min M (s + ((k1 : Nat) : Int)) = min M (min M (s + ((0 : Nat) : Int)) + ((k1 : Nat) : Int)) by have := HKK.out.2.2; omega]; exact c6, K5.out.trans (k6.mono fun r h => by have := HO.out; omega)⟩
              clear c6 k6 CI
              go_wp2_with fail
              go_roundw
              case rel => exact ⟨1, τ6, vs6, by go_num, by omega, HR⟩
              case measure => simp [intOf]
            · have CU := Lib.hid (show Calls Tryz.prog 71 #[.pointer (some ⟨q, 0, none⟩), .slice A (rests f t).length cap, .agg #[.int .u32 0, .int .u32 (Z : Int)], .int .i64 (o' : Int)] (wr.alloc (.cells #[.int .u32 0, .int .u32 (Z : Int)] 147)) _ from by
                have := under_any (cap := cap) (R.out.1.step (Step.of_below (fun _ => False) τr (below_alloc wr (.cells #[.int .u32 0, .int .u32 (Z : Int)] 147))) id (fun _ _ => id) id) (o := o') (by have := HO.out; omega) hn ((HHL.out.step R.out.2 hRr).step (Step.of_below (fun _ => False) τr (below_alloc wr _)) id) ⟨hr9, by have := HO.out; omega⟩ HOK.out hlen HV.out.2.1
                rw [HV.out.2.2.2.1, HV.out.2.2.2.2] at this
                exact this)
              go_wp2_with fail
              (with_reducible refine CU.out.mono ?_)
              rintro e w5 ⟨τ5, vs5, A5, cap5, rfl, c5, m5, k5⟩
              have CI := Lib.hid (show Calls Tryz.prog 34 #[.pointer (some ⟨q, 0, none⟩), .slice A5 (undr (rests f t) (-v)).length cap5, .int .i64 (o' : Int)] w5 (CnPost B τ5 w5 q o' (min M (s + (k1 : Nat))) M k2) from by
                have er : rests f (setL t (-v)) = undr (rests f t) (-v) := rests_set ht HV.out.2.1 HV.out.2.2.1 okf
                have := HIH.out o' (by have := HO.out; omega) τ5 w5 vs5 (min M (s + (k1 : Nat))) (10 + o') A5 (setL t (-v)) cap5 c5 (by rw [er]; exact m5) (by omega) (by omega) (setL_tv ht HV.out.2.1) (by have := count_set ht HV.out.2.1 HV.out.2.2.1; have := HO.out; omega) (by omega) (by omega) (by rw [HKK.out.2.1]; have := HKK.out.2.2; omega) (by rw [er]; exact Nat.le_trans (undr_len _ _) hlen)
                rw [er, HKK.out.2.1] at this
                exact this)
              have K5 := Lib.hid (R.out.2.trans ((Step.of_below _ τr (below_alloc wr (.cells #[.int .u32 0, .int .u32 (Z : Int)] 147))).trans (k5.mono (R' := fun r => r = 9 ∨ (10 ≤ r ∧ r < 10 + o)) (fun r h => by have := HO.out; omega))))
              clear c5 m5 k5 CU
              go_wp2_with fail
              (with_reducible refine CI.out.mono ?_)
              rintro e w6 ⟨rfl, τ6, vs6, c6, k6⟩
              have HR : Hid (Ctr B τ6 w6 q (min M (s + (k : Nat))) M vs6 ∧ Step (fun r => r = 9 ∨ (10 ≤ r ∧ r < 10 + o)) τ τ6 w w6) := ⟨by
                rw [show min M (s + ((k : Nat) : Int)) = min M (min M (s + ((k1 : Nat) : Int)) + ((k2 : Nat) : Int)) by have := HKK.out.2.2; omega]; exact c6, K5.out.trans (k6.mono fun r h => by have := HO.out; omega)⟩
              clear c6 k6 CI
              go_wp2_with fail
              go_roundw
              case rel => exact ⟨2, τ6, vs6, by go_num, by omega, HR⟩
              case measure => simp [intOf]
            · have HE : Hid (CnPost B τ w q o s M k (.returned (.tuple #[])) wr) := ⟨rfl, τr, vsr, R.out.1, R.out.2⟩
              go_wp2_with fail
              refine bodyPost_ret (results_none rfl _ _ _) rfl ?_
              exact HE.out
end
end Go.Proofs.YtpmdnbdmocdngaaGreat
