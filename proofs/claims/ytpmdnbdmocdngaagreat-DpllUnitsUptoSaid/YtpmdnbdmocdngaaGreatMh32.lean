/-
  Parts of the proof, joined: DpllFk, DpllGa, DpllGb, DpllGc.
-/
import Derived.Test.YtpmdnbdmocdngaaGreatMh31
import Derived.Test.YtpmdnbdmocdngaaGreatMh23
import Derived.Test.YtpmdnbdmocdngaaGreatMh29

namespace Go.Proofs.YtpmdnbdmocdngaaGreat
open Go.ChangeShapes Go.WideShapes Go.ChangeAt Go.RowKit
set_option linter.unusedVariables false
set_option linter.unusedSimpArgs false

section
variable {w : World} {s f : Int}
/-- Is a claim's list of literals nil? -/
def noLits (v : Value) : Bool := match v with | .slice none _ _ => true | _ => false
set_option maxHeartbeats 800000 in
set_option maxRecDepth 4000 in
theorem gone_nil : Calls Tryz.prog 177 #[.agg #[.slice none 0 0, .int .i64 s, .int .i64 f]] w fun e w' => e = .returned (.bool true) ∧ Below w.heap.size w w' := by
  have EQ : ∀ W, (binOp BinOp.eql 123 (.slice none 0 0) (.slice none 0 0)).run Tryz.prog W = .ok (.bool true) W := fun W => by rfl
  go_enter Tryz.func177, Tryz.ntmps177
  go_wp2_with fail
  go_ret
  exact ⟨rfl, (Below.refl _ _).alloc (Nat.le_refl _) _⟩
set_option maxHeartbeats 800000 in
set_option maxRecDepth 4000 in
theorem gone_some {a : Addr} {n c : Nat} : Calls Tryz.prog 177 #[.agg #[.slice (some a) n c, .int .i64 s, .int .i64 f]] w fun e w' => e = .returned (.bool false) ∧ Below w.heap.size w w' := by
  have EQ : ∀ W, (binOp BinOp.eql 123 (.slice (some a) n c) (.slice none 0 0)).run Tryz.prog W = .ok (.bool false) W := fun W => by rfl
  go_enter Tryz.func177, Tryz.ntmps177
  go_wp2_with fail
  go_ret
  exact ⟨rfl, (Below.refl _ _).alloc (Nat.le_refl _) _⟩
/-- A row of claims some of which have no literals any more. -/
def Crow (w : World) (ga m : Nat) (P : Nat → Bool) : Prop := ∀ k, k < m → ∃ v s f, w.cell? ⟨ga, k * 3, none⟩ = some v ∧ w.cell? ⟨ga, k * 3 + 1, none⟩ = some (.int .i64 s) ∧ w.cell? ⟨ga, k * 3 + 2, none⟩ = some (.int .i64 f) ∧ ((v = .slice none 0 0 ∧ P k = true) ∨ ∃ a n c, v = .slice (some a) n c ∧ P k = false)
theorem gone_any {v : Value} {b : Bool} (h : (v = .slice none 0 0 ∧ b = true) ∨ ∃ a n c, v = .slice (some a) n c ∧ b = false) : Calls Tryz.prog 177 #[.agg #[v, .int .i64 s, .int .i64 f]] w fun e w' => e = .returned (.bool b) ∧ Below w.heap.size w w' := by
  rcases h with ⟨rfl, rfl⟩ | ⟨a, n, c, rfl, rfl⟩
  · exact gone_nil
  · exact gone_some
set_option maxHeartbeats 1600000 in
set_option maxRecDepth 4000 in
theorem goneindex_any {ga m capa : Nat} {P : Nat → Bool} (h : Crow w ga m P) (hm : m < 2147483648) :
    Calls Tryz.prog 208 #[.slice (some ⟨ga, 0, none⟩) m capa, .func (.func 177) #[] #[]] w fun e w' => Below w.heap.size w w' ∧
      ((e = .returned (.int .i64 (-1)) ∧ ∀ k, k < m → P k = false) ∨ ∃ j : Nat, j < m ∧ e = .returned (.int .i64 (j : Int)) ∧ P j = true ∧ ∀ k, k < j → P k = false) := by
  have H := Lib.hid h
  have KG : Hid (∀ (W : World) (v : Value) (b : Bool) (s f : Int), ((v = .slice none 0 0 ∧ b = true) ∨ ∃ a n c, v = .slice (some a) n c ∧ b = false) → Calls Tryz.prog 177 #[.agg #[v, .int .i64 s, .int .i64 f]] W fun e w' => e = .returned (.bool b) ∧ Below W.heap.size W w') := Lib.hid (fun W v b s f h => gone_any h)
  clear h
  go_enter Tryz.func208, Tryz.ntmps208
  go_wp2_with fail
  go_loopw [8] (fun kv wr => ∃ k : Nat, k ≤ m ∧ kv = .int .i64 k ∧ Hid (Below w.heap.size w wr) ∧ Hid (∀ i, i < k → P i = false)) (fun kv _ => m - (intOf kv).toNat)
  case atStart => exact ⟨0, Nat.zero_le _, rfl, Lib.hid (Below.refl _ _), Lib.hid (fun i hi => absurd hi (by omega))⟩
  case round =>
    obtain ⟨k, hk, rfl, B, N⟩ := hrel
    by_cases hlt : (k : Int) < (m : Int)
    · obtain ⟨v, s, f, x1, x2, x3, hv⟩ := H.out k (by omega)
      have key : ∀ {a : Addr} {u : Value}, w.cell? a = some u → wr.cell? a = some u := fun {a u} hu => (B.out.cell (lt_of_cellF hu)).trans hu
      have y1 := key x1
      have y2 := key x2
      have y3 := key x3
      have KG2 := Lib.hid (fun W => KG.out W v (P k) s f hv)
      obtain ⟨q, hq⟩ : ∃ q, k + 1 = q := ⟨_, rfl⟩
      have t1 : IntKind.i64.wrap ((k : Int) + 1) = (q : Int) := by rw [show (k : Int) + 1 = (q : Int) by omega]; exact wrap_in (by omega) (by omega)
      clear x1 x2 x3 hv
      cases hP : P k with
      | true =>
        rw [hP] at KG2
        have HP := Lib.hid hP
        clear hP
        go_wp2_with fail
        (with_reducible refine (KG2.out wr).mono ?_)
        rintro e w3 ⟨rfl, b3⟩
        have B3 := Lib.hid (B.out.trans (b3.mono B.out.size))
        clear b3 y1 y2 y3
        go_wp2_with fail
        go_ret
        exact ⟨B3.out, .inr ⟨k, by omega, rfl, HP.out, N.out⟩⟩
      | false =>
        rw [hP] at KG2
        have HP := Lib.hid hP
        clear hP
        go_wp2_with fail
        (with_reducible refine (KG2.out wr).mono ?_)
        rintro e w3 ⟨rfl, b3⟩
        have B3 := Lib.hid (B.out.trans (b3.mono B.out.size))
        clear b3 y1 y2 y3
        go_wp2_with fail
        go_roundw
        case rel => exact ⟨q, by omega, rfl, B3, Lib.hid (fun i hi => by
          by_cases e : i = k
          · subst e; exact HP.out
          · exact N.out i (by omega))⟩
        case measure => simp [intOf]; omega
    · obtain rfl : m = k := by omega
      go_wp2_with fail
      go_ret
      exact ⟨B.out, .inl ⟨rfl, N.out⟩⟩
end
end Go.Proofs.YtpmdnbdmocdngaaGreat

namespace Go.Proofs.YtpmdnbdmocdngaaGreat
open Go.ChangeShapes Go.WideShapes Go.ChangeAt Go.RowKit
set_option linter.unusedVariables false
set_option linter.unusedSimpArgs false

abbrev nilS : Value := .slice none 0 0
/-- A list of literals, as it may stand in a claim. -/
def LitV (v : Value) : Prop := (v = nilS ∧ noLits v = true) ∨ ∃ a n c, v = .slice (some a) n c ∧ noLits v = false
/-- The claims that stay. -/
def kr (l : List (Value × Cl)) : List (Value × Cl) := l.filter fun a => !(noLits a.1)
def Pk (rows : List (Value × Cl)) (k : Nat) : Bool := match rows[k]? with | some a => noLits a.1 | none => false
theorem kr_snoc {l : List (Value × Cl)} {j : Nat} {a : Value × Cl} (h : l[j]? = some a) : kr (l.take (j + 1)) = kr (l.take j) ++ (if noLits a.1 = true then [] else [a]) := by
  obtain ⟨h1, h2⟩ := List.getElem?_eq_some_iff.1 h
  unfold kr
  rw [List.take_succ_eq_append_getElem h1, h2, List.filter_append]
  congr 1
  cases e : noLits a.1 <;> simp [e]
theorem kr_len (l : List (Value × Cl)) : (kr l).length ≤ l.length := List.length_filter_le _ _
theorem kr_none {l : List (Value × Cl)} (h : ∀ a ∈ l, noLits a.1 = false) : kr l = l := by
  unfold kr
  rw [List.filter_eq_self]
  intro a ha
  rw [h a ha]; rfl
theorem kr_at : ∀ (l : List (Value × Cl)) (i' : Nat) (a : Value × Cl), (kr l)[i']? = some a → ∃ i, l[i]? = some a ∧ noLits a.1 = false ∧ i' = (kr (l.take i)).length
  | [], i', a, h => by simp [kr] at h
  | x :: l, i', a, h => by
    cases e : noLits x.1 with
    | true =>
      have e1 : kr (x :: l) = kr l := by simp [kr, e]
      rw [e1] at h
      obtain ⟨i, h1, h2, h3⟩ := kr_at l i' a h
      refine ⟨i + 1, h1, h2, ?_⟩
      rw [List.take_succ_cons]
      have e2 : kr (x :: l.take i) = kr (l.take i) := by simp [kr, e]
      rw [e2]; exact h3
    | false =>
      have e1 : kr (x :: l) = x :: kr l := by simp [kr, e]
      rw [e1] at h
      cases i' with
      | zero =>
        have : x = a := by simpa using h
        subst this
        exact ⟨0, rfl, e, rfl⟩
      | succ i' =>
        rw [List.getElem?_cons_succ] at h
        obtain ⟨i, h1, h2, h3⟩ := kr_at l i' a h
        refine ⟨i + 1, h1, h2, ?_⟩
        rw [List.take_succ_cons]
        have e2 : kr (x :: l.take i) = x :: kr (l.take i) := by simp [kr, e]
        rw [e2, List.length_cons, h3]
theorem kr_in {l : List (Value × Cl)} {a : Value × Cl} (h : a ∈ l) (hn : noLits a.1 = false) : a ∈ kr l := List.mem_filter.2 ⟨h, by rw [hn]; rfl⟩
/-- One claim more without literals: one less that stays. -/
theorem kr_set : ∀ (l : List (Value × Cl)) (i : Nat) (x : Value × Cl), (kr l).length ≤ (kr (l.set i x)).length + 1
  | [], i, x => by simp [kr]
  | y :: l, 0, x => by
    rw [List.set_cons_zero]
    unfold kr
    rw [List.filter_cons, List.filter_cons]
    split <;> split <;> simp <;> omega
  | y :: l, i + 1, x => by
    have ih := kr_set l i x
    rw [List.set_cons_succ]
    unfold kr at ih ⊢
    rw [List.filter_cons, List.filter_cons]
    split
    · rw [List.length_cons, List.length_cons]; omega
    · exact ih
theorem rows_at {rows : List (Value × Cl)} {k : Nat} {a : Value × Cl} (h : rows[k]? = some a) : Pk rows k = noLits a.1 := by unfold Pk; rw [h]
def zr (k : Nat) : List (Value × Cl) := List.replicate k (nilS, ⟨[], 0, 0⟩)
theorem clCells_app (a b : List (Value × Cl)) : clCells (a ++ b) = clCells a ++ clCells b := by unfold clCells; exact List.flatMap_append
theorem clCells_len (l : List (Value × Cl)) : (clCells l).length = l.length * 3 := by
  induction l with
  | nil => rfl
  | cons a l ih => show ([_, _, _] ++ clCells l).length = _; rw [List.length_append, ih]; simp; omega
theorem clCells_zr (k : Nat) : clCells (zr k) = (List.replicate k [nilS, .int .i64 0, .int .i64 0]).flatten := by
  induction k with
  | zero => rfl
  | succ k ih =>
    show clCells (_ :: zr k) = _
    rw [List.replicate_succ, List.flatten_cons, ← ih]; rfl
theorem clCells_take : ∀ (l : List (Value × Cl)) (k : Nat), (clCells l).take (k * 3) = clCells (l.take k)
  | l, 0 => by simp [clCells]
  | [], k + 1 => by simp [clCells]
  | a :: l, k + 1 => by
    have ih := clCells_take l k
    show ([_, _, _] ++ clCells l).take _ = [_, _, _] ++ clCells (l.take k)
    rw [show (k + 1) * 3 = k * 3 + 1 + 1 + 1 by omega, ← ih]
    rfl
theorem clCells_drop : ∀ (l : List (Value × Cl)) (k : Nat), (clCells l).drop (k * 3) = clCells (l.drop k)
  | l, 0 => by simp
  | [], k + 1 => by simp [clCells]
  | a :: l, k + 1 => by
    have ih := clCells_drop l k
    show ([_, _, _] ++ clCells l).drop _ = clCells (l.drop k)
    rw [show (k + 1) * 3 = k * 3 + 1 + 1 + 1 by omega, ← ih]
    rfl
/-- A claim's three cells, written. -/
theorem sets_cl (l : List (Value × Cl)) (i : Nat) (a : Value × Cl) (h : i < l.length) : sets (clCells l) (i * 3) [a.1, .int .i64 a.2.sp, .int .i64 a.2.fr] = clCells (l.set i a) := by
  rw [sets_eq _ _ _ (by rw [clCells_len]; simp; omega)]
  rw [clCells_take, show i * 3 + [a.1, Value.int .i64 a.2.sp, Value.int .i64 a.2.fr].length = (i + 1) * 3 by simp; omega, clCells_drop]
  rw [List.set_eq_take_append_cons_drop, if_pos h, clCells_app]
  rw [List.append_assoc]; rfl
structure GdR (τ : Nat → Nat) (w : World) (g cap : Nat) (rows : List (Value × Cl)) (j : Nat) (N : List (Value × Cl)) (wr : World) : Prop where
  row : RowN τ 2 wr 206 3 (.slice (some ⟨g, 0, none⟩) rows.length cap) rows.length (clCells N)
  S : Stk g w wr
  len : N.length = rows.length
  tk : N.take (kr (rows.take j)).length = kr (rows.take j)
  dr : N.drop j = rows.drop j
section
variable {τ : Nat → Nat} {w wr : World} {g cap j : Nat} {rows N : List (Value × Cl)}
theorem RowN.below {τ : Nat → Nat} {r s n : Nat} {w w' : World} {e : TypeId} {v : Value} {xs : List Value} (h : RowN τ r w e s v n xs) (b : Below w.heap.size w w') : RowN τ r w' e s v n xs := h.step (Step.of_below (fun _ => False) τ b) id
theorem GdR.below {W : World} (h : GdR τ w g cap rows j N wr) (b : Below wr.heap.size wr W) : GdR τ w g cap rows j N W :=
  ⟨h.row.below b, h.S.trans (Stk.of_below b), h.len, h.tk, h.dr⟩
theorem GdR.get (h : GdR τ w g cap rows j N wr) {i : Nat} (hj : j ≤ i) : N[i]? = rows[i]? := by
  have e := h.dr
  have : (N.drop j)[i - j]? = (rows.drop j)[i - j]? := by rw [e]
  rwa [List.getElem?_drop, List.getElem?_drop, show j + (i - j) = i by omega] at this
theorem GdR.skip (h : GdR τ w g cap rows j N wr) {a : Value × Cl} (hv : rows[j]? = some a) (hn : noLits a.1 = true) : GdR τ w g cap rows (j + 1) N wr := by
  refine ⟨h.row, h.S, h.len, ?_, ?_⟩
  · rw [kr_snoc hv, if_pos hn, List.append_nil]; exact h.tk
  · rw [← List.drop_drop, ← List.drop_drop, h.dr]
theorem GdR.put (h : GdR τ w g cap rows j N wr) {a : Value × Cl} (hv : rows[j]? = some a) (hn : noLits a.1 = false) {i : Nat} (hi : (kr (rows.take j)).length = i) (hij : i < j + 1) : GdR τ w g cap rows (j + 1) (N.set i a) (wr.setCells g (i * 3) [a.1, .int .i64 a.2.sp, .int .i64 a.2.fr]) := by
  have hj := (List.getElem?_eq_some_iff.1 hv).1
  subst hi
  refine ⟨?_, h.S.trans (Stk.cells _ _ _), by rw [List.length_set]; exact h.len, ?_, ?_⟩
  · rw [← sets_cl _ _ _ (by rw [h.len]; omega)]
    exact h.row.stores _ _ _ _ (by simp; omega)
  · rw [kr_snoc hv, if_neg (by rw [hn]; decide)]
    have hk : (kr (rows.take j)).length < N.length := by rw [h.len]; omega
    rw [List.length_append, List.length_singleton, List.take_succ_eq_append_getElem (by rw [List.length_set]; exact hk), List.getElem_set_self, List.take_set_of_le (Nat.le_refl _), h.tk]
  · rw [List.drop_set, if_pos hij, ← List.drop_drop, ← List.drop_drop, h.dr]
theorem GdR.cells (h : GdR τ w g cap rows j N wr) {i : Nat} {a : Value × Cl} (ha : N[i]? = some a) : wr.cell? ⟨g, i * 3, none⟩ = some a.1 ∧ wr.cell? ⟨g, i * 3 + 1, none⟩ = some (.int .i64 a.2.sp) ∧ wr.cell? ⟨g, i * 3 + 2, none⟩ = some (.int .i64 a.2.fr) := by
  have hc : ∀ q u', q < 3 → ([a.1, .int .i64 a.2.sp, .int .i64 a.2.fr] : List Value)[q]? = some u' → wr.cell? ⟨g, i * 3 + q, none⟩ = some u' := fun q u' hq hu' =>
    h.row.cell ((flat_at cl_len _ i q _ ha hq).trans hu')
  exact ⟨hc 0 _ (by decide) rfl, hc 1 _ (by decide) rfl, hc 2 _ (by decide) rfl⟩
theorem GdR.free (h : GdR τ w g cap rows j N wr) (hl : 0 < rows.length) : ∀ k, wr.frozen? ⟨g, k, none⟩ = false := by
  rcases h.row.at with ⟨h0, _⟩ | ⟨g', cap', cur, h0, hb, _⟩
  · cases h0
  · injection h0 with h0 _ _; injection h0 with h0; injection h0 with h0; subst h0; exact hb.free
/-- The end: what stays, then noughts. -/
theorem GdR.done (h : GdR τ w g cap rows rows.length N wr) {i : Nat} (hi : (kr rows).length = i) :
    RowN τ 2 (wr.setCells g (i * 3) (clCells (zr (rows.length - i)))) 206 3 (.slice (some ⟨g, 0, none⟩) rows.length cap) rows.length (clCells (kr rows ++ zr (rows.length - i))) ∧ Stk g w (wr.setCells g (i * 3) (clCells (zr (rows.length - i)))) := by
  have hil : i ≤ rows.length := by rw [← hi]; exact kr_len _
  have hz : (zr (rows.length - i)).length = rows.length - i := by simp [zr]
  have hzl : (clCells (zr (rows.length - i))).length = (rows.length - i) * 3 := by rw [clCells_len, hz]
  refine ⟨?_, h.S.trans (Stk.cells _ _ _)⟩
  have := h.row.stores (clCells (zr (rows.length - i))) (i * 3) _ _ (by rw [hzl]; omega)
  rw [sets_eq _ _ _ (by rw [hzl, clCells_len N, h.len]; omega), clCells_take, List.drop_eq_nil_of_le (by rw [hzl, clCells_len N, h.len]; omega), List.append_nil] at this
  have htk := h.tk
  rw [List.take_length] at htk
  rw [← hi, htk, ← clCells_app, hi] at this
  exact this
end
end Go.Proofs.YtpmdnbdmocdngaaGreat

namespace Go.Proofs.YtpmdnbdmocdngaaGreat
open Go.ChangeShapes Go.WideShapes Go.ChangeAt Go.RowKit
set_option linter.unusedVariables false
set_option linter.unusedSimpArgs false

/-- The parts, dealt out anew: those of the claims that stay go by their new places. -/
def rt (R : List (Value × Cl)) (τ : Nat → Nat) (b : Nat) : Nat := if 101 ≤ τ b ∧ τ b % 2 = 1 then 101 + 2 * (kr (R.take ((τ b - 101) / 2))).length else τ b
theorem rt_low {R : List (Value × Cl)} {τ : Nat → Nat} {b r : Nat} (h : τ b = r) (hr : r < 101 ∨ r % 2 = 0) : rt R τ b = r := by
  unfold rt
  rw [if_neg (by rw [h]; omega), h]
theorem rt_lit {R : List (Value × Cl)} {τ : Nat → Nat} {b i : Nat} (h : τ b = 101 + 2 * i) : rt R τ b = 101 + 2 * (kr (R.take i)).length := by
  unfold rt
  rw [if_pos (by rw [h]; omega), h, show (101 + 2 * i - 101) / 2 = i by omega]
section
variable {τ τ' : Nat → Nat} {r r' s n m g cap : Nat} {w w' : World} {e : TypeId} {v : Value} {xs : List Value}
theorem Row.moved (h : Row τ r w e v xs) (k : ∀ g, g < w.heap.size → v.ownBlock = some g → τ g = r → w'.heap[g]? = w.heap[g]? ∧ τ' g = r') : Row τ' r' w' e v xs := by
  rcases h.at with ⟨h0, h1⟩ | ⟨g, cap, cur, h0, hb, h1, h2, h3, h4⟩
  · subst h1; subst h0
    exact ⟨⟨rfl, .inl ⟨rfl, rfl⟩⟩, fun g hg => by cases hg⟩
  · subst h0
    obtain ⟨a, b⟩ := k g hb.lt rfl hb.2
    exact Row.mk' ⟨a.trans hb.1, b⟩ h1 h2 h3 h4
theorem RowN.moved (h : RowN τ r w e s v n xs) (k : ∀ g, g < w.heap.size → v.ownBlock = some g → τ g = r → w'.heap[g]? = w.heap[g]? ∧ τ' g = r') : RowN τ' r' w' e s v n xs := by
  rcases h.1.2 with ⟨h0, h1⟩ | ⟨g, cap, cur, h0, hb, hg, h1, h2, h3, h4⟩
  · exact ⟨⟨h.1.1, .inl ⟨h0, h1⟩⟩, fun g hg => by rw [h0] at hg; cases hg⟩
  · have hr := h.2 g (by rw [h0]; rfl)
    obtain ⟨a, b⟩ := k g (lt_of_heap hg) (by rw [h0]; rfl) hr
    refine ⟨⟨h.1.1, .inr ⟨g, cap, cur, h0, hb, a.trans hg, h1, h2, h3, h4⟩⟩, fun b' hb' => ?_⟩
    rw [h0] at hb'
    have : g = b' := by simpa [Value.ownBlock] using hb'
    subst this; exact b
theorem RowN.cut (h : RowN τ r w e s (.slice (some ⟨g, 0, none⟩) n cap) n xs) (hm : m ≤ n) : RowN τ r w e s (.slice (some ⟨g, 0, none⟩) m cap) m (xs.take (m * s)) := by
  have hl := h.1.1
  have hms : m * s ≤ n * s := Nat.mul_le_mul_right _ hm
  rcases h.1.2 with ⟨h0, h1⟩ | ⟨g', cap', cur, h0, hb, hg, h1, h2, h3, h4⟩
  · cases h0
  · injection h0 with h0 _ h5; injection h0 with h0; injection h0 with h0; subst h0; subst h5
    refine ⟨⟨by rw [List.length_take, hl]; omega, .inr ⟨g, cap, cur, rfl, hb, hg, Nat.le_trans hm h1, h2, h3, by rw [← h4, List.take_take, Nat.min_eq_left hms]⟩⟩, fun b hb => ?_⟩
    exact h.2 b hb
end
/-- A search's row of claims. -/
structure Gk (τ : Nat → Nat) (w : World) (d : Sd) (ga m capa : Nat) (cvs : List Value) : Prop where
  len : d.cls.length = m
  cl : cvs.length = m
  row : RowN τ 2 w 206 3 (.slice (some ⟨ga, 0, none⟩) m capa) m (clCells (cvs.zip d.cls))
  at_ : ∀ (i : Nat) (c : Cl), d.cls[i]? = some c → ∃ u, cvs[i]? = some u ∧ Row τ (101 + 2 * i) w 138 u (n32 c.ls)
/-- The rows of claims when j of them were let out. -/
structure Fgt (d : Sd) (cvs : List Value) (R : List (Value × Cl)) (j : Nat) : Prop where
  len : R.length = d.cls.length
  at_ : ∀ (i : Nat) (a : Value × Cl), R[i]? = some a → ∃ (u : Value) (c : Cl), cvs[i]? = some u ∧ d.cls[i]? = some c ∧ a.2 = c ∧ (a.1 = u ∨ (a.1 = nilS ∧ 2 < c.sp))
  cnt : d.cls.length ≤ (kr R).length + j
section
variable {B : Nat} {τ : Nat → Nat} {w w' : World} {p n m ga capa j : Nat} {d : Sd} {cvs : List Value} {R : List (Value × Cl)} {pcs : Array Value}
theorem Sx.gk (h : Sx B τ w p n d pcs) (hl : 0 < d.cls.length) : ∃ ga capa cvs, pcs[0]? = some (.slice (some ⟨ga, 0, none⟩) d.cls.length capa) ∧ Gk τ w d ga d.cls.length capa cvs ∧ d.cls.length ≤ capa ∧ capa ≤ 9223372036854775807 := by
  obtain ⟨v, cvs, h0, h1, h2, h3⟩ := h.cl
  rcases h2.at with ⟨_, e⟩ | ⟨ga, capa, cur, e, hb, e1, e2, e3, e4⟩
  · omega
  subst e
  exact ⟨ga, capa, cvs, h0, ⟨rfl, h1, h2, fun i c hc => by obtain ⟨u, ⟨a, _⟩, b⟩ := h3 i c hc; exact ⟨u, a, b⟩⟩, e1, e2⟩
theorem Gk.vals (G : Gk τ w d ga m capa cvs) (hl : ∀ c ∈ d.cls, 0 < c.ls.length) {i : Nat} {u : Value} (hu : cvs[i]? = some u) : ∃ a n c, u = .slice (some a) n c ∧ noLits u = false := by
  have hi := (List.getElem?_eq_some_iff.1 hu).1
  obtain ⟨c, hc⟩ : ∃ c, d.cls[i]? = some c := ⟨_, List.getElem?_eq_getElem (by rw [G.len, ← G.cl]; exact hi)⟩
  obtain ⟨u', hu', hr⟩ := G.at_ i c hc
  rw [hu] at hu'; injection hu' with hu'; subst hu'
  rcases hr.at with ⟨_, h1⟩ | ⟨g, cap, cur, h0, _⟩
  · have := hl c (List.mem_of_getElem? hc)
    have h2 : (n32 c.ls).length = 0 := by rw [h1]; rfl
    simp at h2; rw [h2] at this; simp at this
  · exact ⟨_, _, _, h0, by rw [h0]; rfl⟩
theorem Fgt.start (G : Gk τ w d ga m capa cvs) (hl : ∀ c ∈ d.cls, 0 < c.ls.length) : Fgt d cvs (cvs.zip d.cls) 0 := by
  have hz : (cvs.zip d.cls).length = d.cls.length := by rw [List.length_zip, G.cl, G.len, Nat.min_self]
  have h2 : ∀ (i : Nat) (a : Value × Cl), (cvs.zip d.cls)[i]? = some a → ∃ (u : Value) (c : Cl), cvs[i]? = some u ∧ d.cls[i]? = some c ∧ a.2 = c ∧ (a.1 = u ∨ (a.1 = nilS ∧ 2 < c.sp)) := fun i a ha => by
    obtain ⟨u, c⟩ := a
    rw [List.getElem?_zip_eq_some] at ha
    exact ⟨u, c, ha.1, ha.2, rfl, .inl rfl⟩
  refine ⟨hz, h2, ?_⟩
  rw [kr_none fun a ha => ?_, hz]; exact Nat.le_refl _
  obtain ⟨i, hi⟩ := List.getElem?_of_mem ha
  obtain ⟨u, c⟩ := a
  rw [List.getElem?_zip_eq_some] at hi
  obtain ⟨_, _, _, _, e⟩ := G.vals hl hi.1
  exact e
theorem Fgt.set (F : Fgt d cvs R j) {k : Nat} {c : Cl} {a : Value × Cl} (hk : d.cls[k]? = some c) (h2 : 2 < c.sp) (ha : R[k]? = some a) : Fgt d cvs (R.set k (nilS, a.2)) (j + 1) := by
  refine ⟨by rw [List.length_set]; exact F.len, fun i b hb => ?_, by have := kr_set R k (nilS, a.2); have := F.cnt; omega⟩
  by_cases e : k = i
  · subst e
    rw [List.getElem?_set_self (List.getElem?_eq_some_iff.1 ha).1] at hb
    injection hb with hb; subst hb
    obtain ⟨u, c', x, y, z, _⟩ := F.at_ k a ha
    rw [hk] at y; injection y with y; subst y
    exact ⟨u, c, x, hk, z, .inr ⟨rfl, h2⟩⟩
  · rw [List.getElem?_set_ne e] at hb
    exact F.at_ i b hb
theorem Fgt.lit (F : Fgt d cvs R j) (G : Gk τ w d ga m capa cvs) (hl : ∀ c ∈ d.cls, 0 < c.ls.length) {i : Nat} {a : Value × Cl} (ha : R[i]? = some a) : LitV a.1 := by
  obtain ⟨u, c, h1, h2, h3, h4 | ⟨h4, _⟩⟩ := F.at_ i a ha
  · obtain ⟨x, y, z, h5, h6⟩ := G.vals hl h1
    rw [h4]; exact .inr ⟨x, y, z, h5, h6⟩
  · rw [h4]; exact .inl ⟨rfl, rfl⟩
/-- The claims that stay are claims of the search. -/
theorem Fgt.sub (F : Fgt d cvs R j) : ∀ c ∈ (kr R).map (·.2), c ∈ d.cls := fun c hc => by
  obtain ⟨a, ha, e⟩ := List.mem_map.1 hc
  obtain ⟨i, hi⟩ := List.getElem?_of_mem (List.mem_filter.1 ha).1
  obtain ⟨u, c', _, h2, h3, _⟩ := F.at_ i a hi
  rw [← e, h3]; exact List.mem_of_getElem? h2
theorem Fgt.keeps (F : Fgt d cvs R j) (G : Gk τ w d ga m capa cvs) (hl : ∀ c ∈ d.cls, 0 < c.ls.length) : ∀ c ∈ d.cls, c.sp = 0 → c ∈ (kr R).map (·.2) := fun c hc h0 => by
  obtain ⟨i, hi⟩ := List.getElem?_of_mem hc
  obtain ⟨a, ha⟩ : ∃ a, R[i]? = some a := ⟨_, List.getElem?_eq_getElem (by rw [F.len]; exact (List.getElem?_eq_some_iff.1 hi).1)⟩
  obtain ⟨u, c', h1, h2, h3, h4⟩ := F.at_ i a ha
  rw [hi] at h2; injection h2 with h2; subst h2
  refine List.mem_map.2 ⟨a, kr_in (List.mem_of_getElem? ha) ?_, h3⟩
  rcases h4 with h4 | ⟨_, h4⟩
  · obtain ⟨_, _, _, _, e⟩ := G.vals hl h1
    rw [h4]; exact e
  · omega
theorem zip_kr (l : List (Value × Cl)) : (l.map (·.1)).zip (l.map (·.2)) = l := by
  induction l with
  | nil => rfl
  | cons a l ih => exact congrArg (a :: ·) ih
theorem Sx.forgot (h : Sx B τ w p n d pcs) (h0 : pcs[0]? = some (.slice (some ⟨ga, 0, none⟩) m capa)) (G : Gk τ w d ga m capa cvs) (hl : ∀ c ∈ d.cls, 0 < c.ls.length) (F : Fgt d cvs R j) (S : Stk ga w w') {Z : List (Value × Cl)}
    (row : RowN τ 2 w' 206 3 (.slice (some ⟨ga, 0, none⟩) m capa) m (clCells (kr R ++ Z))) {m' : Nat} (hm : (kr R).length = m') :
    Sr B (rt R τ) (w'.setCell ⟨p, 0, none⟩ (.slice (some ⟨ga, 0, none⟩) m' capa)) p n { d with cls := (kr R).map (·.2), gk := m', gu := nilS } ∧ Stp τ (rt R τ) w (w'.setCell ⟨p, 0, none⟩ (.slice (some ⟨ga, 0, none⟩) m' capa)) := by
  have hga : τ ga = 2 := G.row.2 ga rfl
  have hp := h.blk.2
  have npg : p ≠ ga := fun e => by rw [e, hga] at hp; cases hp
  have hmm : m' ≤ m := by rw [← hm, ← G.len, ← F.len]; exact kr_len R
  have hb : ∀ b, b < w.heap.size → b ≠ ga → b ≠ p → (w'.setCell ⟨p, 0, none⟩ (.slice (some ⟨ga, 0, none⟩) m' capa)).heap[b]? = w.heap[b]? := fun b hb h1 h2 =>
    (set_other (p := ⟨p, 0, none⟩) h2).trans (S.block b hb h1)
  have hsz : w.heap.size ≤ (w'.setCell ⟨p, 0, none⟩ (.slice (some ⟨ga, 0, none⟩) m' capa)).heap.size := by simpa [World.setCell] using S.size
  have mv : ∀ {r g : Nat}, g < w.heap.size → τ g = r → r ≠ 1 → r ≠ 2 → (w'.setCell ⟨p, 0, none⟩ (.slice (some ⟨ga, 0, none⟩) m' capa)).heap[g]? = w.heap[g]? := fun {r g} hg hr h1 h2 =>
    hb g hg (fun e => h2 (by rw [← hr, e, hga])) (fun e => h1 (by rw [← hr, e, hp]))
  refine ⟨⟨pcs.setIfInBounds 0 (.slice (some ⟨ga, 0, none⟩) m' capa), ⟨Nat.le_trans h.base hsz, fun b hbB => rt_low (h.low b hbB) (.inl (by decide)), ?_, by simp [h.size], fun k hk => ?_, fun k hk => ?_, ?_, ?_⟩⟩, ⟨⟨S.os, S.tape, S.output, hsz, fun b hbs hn => ?_⟩, fun b _ h0 => rt_low h0 (.inl (by decide))⟩⟩
  · have hbp : Blk (rt R τ) 1 w' p 136 pcs := ⟨(S.block p h.blk.lt npg).trans h.blk.1, rt_low hp (.inl (by decide))⟩
    exact hbp.put 0 _
  · obtain ⟨v, hv, hr⟩ := h.row k hk
    have hk2 := flat_le hk
    exact ⟨v, by rw [Array.getElem?_setIfInBounds_ne (by omega)]; exact hv, hr.moved fun g hg _ e => ⟨mv hg e (by omega) (by omega), rt_low e (by omega)⟩⟩
  · have : k ≠ 0 := fun e => by subst e; cases hk
    rw [Array.getElem?_setIfInBounds_ne (fun e => this e.symm)]; exact h.num k hk
  · refine ⟨_, (kr R).map (·.1), Array.getElem?_setIfInBounds_self_of_lt (by rw [h.size]; decide), by simp, ?_, fun i' c' hc' => ?_⟩
    · show RowN _ 2 _ _ 3 _ ((kr R).map (·.2)).length (clCells (((kr R).map (·.1)).zip ((kr R).map (·.2))))
      rw [zip_kr, List.length_map, hm]
      have := row.cut hmm
      rw [clCells_take, ← hm, List.take_left' rfl, hm] at this
      refine this.moved fun g hg e1 e2 => ⟨set_other (p := ⟨p, 0, none⟩) fun e => ?_, rt_low e2 (.inl (by decide))⟩
      rw [e, hp] at e2; cases e2
    · have hc' : ((kr R).map (·.2))[i']? = some c' := hc'
      rw [List.getElem?_map] at hc'
      obtain ⟨a, ha, e⟩ := Option.map_eq_some_iff.1 hc'
      obtain ⟨i, hi, hn, hi'⟩ := kr_at R i' a ha
      obtain ⟨u, c, h1, h2, h3, h4⟩ := F.at_ i a hi
      have hau : a.1 = u := by
        rcases h4 with h4 | ⟨h4, _⟩
        · exact h4
        · rw [h4] at hn; cases hn
      obtain ⟨u', h5, h6⟩ := G.at_ i c h2
      rw [h1] at h5; injection h5 with h5; subst h5
      have hlt := (List.getElem?_eq_some_iff.1 ha).1
      refine ⟨u, ⟨by rw [List.getElem?_map, ha, ← hau]; rfl, fun e => by
        have e : i' = m' := e
        omega⟩, ?_⟩
      rw [← e, h3]
      exact h6.moved fun g hg _ e2 => ⟨mv hg e2 (by omega) (by omega), by rw [rt_lit e2, hi']⟩
  · obtain ⟨wb, wvs, a, b, c, e⟩ := h.wat
    refine ⟨wb, wvs, by rw [Array.getElem?_setIfInBounds_ne (by decide)]; exact a, ⟨(mv b.lt b.2 (by decide) (by decide)).trans b.1, rt_low b.2 (.inl (by decide))⟩, c, fun q hq => ?_⟩
    obtain ⟨v, f, g⟩ := e q hq
    exact ⟨v, f, g.moved fun g hg _ e2 => ⟨mv hg e2 (by omega) (by omega), rt_low e2 (by omega)⟩⟩
  · have h0 : τ b = 0 := Classical.byContradiction hn
    exact mv hbs h0 (by decide) (by decide)
end
end Go.Proofs.YtpmdnbdmocdngaaGreat

namespace Go.Proofs.YtpmdnbdmocdngaaGreat
open Go.RowKit
set_option linter.unusedVariables false
set_option linter.unusedSimpArgs false

section
variable {n k : Nat} {K0 : Nat → Prop} {Mo : (Nat → Bool) → Prop} {d D : Sd} {cls cls' : List Cl} {F : Nat → List (Nat × Nat)} {c : Cl} {q0 q1 : Nat}
theorem Wt.alike (h : Wt n cls F) (hl : ∀ k : Nat, (cls[k]?).map Cl.ls = (cls'[k]?).map Cl.ls) : Wt n cls' F := by
  have key : ∀ {a b : List Cl} (hl : ∀ k : Nat, (a[k]?).map Cl.ls = (b[k]?).map Cl.ls) {k : Nat} {c : Cl}, a[k]? = some c → ∃ c', b[k]? = some c' ∧ c'.ls = c.ls := fun {a b} hl {k c} hk => by
    have := hl k
    rw [hk] at this
    obtain ⟨c', h1, h2⟩ := Option.map_eq_some_iff.1 this.symm
    exact ⟨c', h1, h2⟩
  refine ⟨fun q hq k y hm => ?_, fun k c i x hk hi hx => ?_, h.wc, h.wd⟩
  · obtain ⟨c, h1, h2, h3, h4⟩ := h.wa q hq k y hm
    obtain ⟨c', e1, e2⟩ := key hl h1
    exact ⟨c', e1, by rw [e2]; exact h2, by rw [e2]; exact h3, h4⟩
  · obtain ⟨c', e1, e2⟩ := key (fun k => (hl k).symm) hk
    exact h.wb k c' i x e1 hi (by rw [e2]; exact hx)
theorem Wt.none_ : Wt n [] fun _ => [] := ⟨(fun q hq k y hm => by cases hm), (fun k c i x hk => by simp at hk), (fun q hq => by simp), fun q hq => rfl⟩
/-- One claim more is watched. -/
theorem Wt.next (h : Wt n (cls.take k) D.F) (hk : cls[k]? = some c) (h0 : c.ls[0]? = some q0) (h1 : c.ls[1]? = some q1) (hq0 : q0 < 2 * n) (hq1 : q1 < 2 * n) (hne : q0 ≠ q1) : Wt n (cls.take (k + 1)) ((D.watched q0 (k, q1)).watched q1 (k, q0)).F := by
  have hkl := (List.getElem?_eq_some_iff.1 hk).1
  have hl : (cls.take k).length = k := by rw [List.length_take]; omega
  have h2 : Wt n ({ D with cls := cls.take k } : Sd).cls ({ D with cls := cls.take k } : Sd).F := h
  have h3 := h2.claim (sp := c.sp) (va := .slice none 0 0) h0 h1 hq0 hq1 hne
  have e : (({ D with cls := cls.take k } : Sd).claimed c.ls c.sp q0 q1 (.slice none 0 0)).F = ((D.watched q0 (k, q1)).watched q1 (k, q0)).F := by
    show (fun r => if r = q1 then (if q1 = q0 then D.F q0 ++ [((cls.take k).length, q1)] else D.F q1) ++ [((cls.take k).length, q0)] else (if r = q0 then D.F q0 ++ [((cls.take k).length, q1)] else D.F r)) = _
    rw [hl]; rfl
  rw [e] at h3
  refine h3.alike fun i => ?_
  show ((cls.take k ++ [(⟨c.ls, c.sp, 2⟩ : Cl)])[i]?).map Cl.ls = _
  rw [List.take_succ_eq_append_getElem hkl]
  have e2 : cls[k] = c := (List.getElem?_eq_some_iff.1 hk).2
  rw [e2]
  by_cases hi : i < (cls.take k).length
  · rw [List.getElem?_append_left hi, List.getElem?_append_left hi]
  · rw [List.getElem?_append_right (Nat.le_of_not_lt hi), List.getElem?_append_right (Nat.le_of_not_lt hi)]
    cases hx : i - (cls.take k).length with
    | zero => rfl
    | succ x => rfl
/-- The search goes on with fewer claims. -/
theorem Ru.fewer (h : Ru n K0 Mo d) (hma : d.ma = []) (hsub : ∀ c ∈ cls', c ∈ d.cls) (hlen : cls'.length ≤ d.cls.length) (W : Wt n cls' F) (gk : Nat) (gu : Value) (le mo : Int) : Ru n K0 Mo { d with cls := cls', F := F, gk := gk, gu := gu, le := le, mo := mo } := by
  have L := h.I.L
  have T := h.I.T
  have C := h.I.C
  have old : ∀ {k : Nat} {c : Cl}, cls'[k]? = some c → ∃ k', d.cls[k']? = some c := fun {k c} hk => List.getElem?_of_mem (hsub c (List.mem_of_getElem? hk))
  refine ⟨⟨⟨L.nb, L.wo, L.dp, L.wy, L.lk, L.sc, L.se, L.co, L.tr, L.ma, L.nu⟩, ⟨T.w, T.tl, T.nd, T.one, T.k0, T.ma, T.mb, T.dp, T.nx, T.mx⟩, ⟨fun k c hk => ?_, fun k c hk => ?_, fun k c hk => ?_, fun k c hk => ?_⟩, W, fun j q hj hl => ?_, fun m hm => ⟨fun k c hk => ?_, (h.I.S m hm).2⟩, ?_⟩, fun k c i x hk hi hx hj => ?_, h.Q, fun k c q hk hq h0 => ?_, h.lk, h.gq, h.se, h.nu, h.dpn⟩
  · obtain ⟨k', hk'⟩ := old hk; exact C.len k' c hk'
  · obtain ⟨k', hk'⟩ := old hk; exact C.nd k' c hk'
  · obtain ⟨k', hk'⟩ := old hk; exact C.lt k' c hk'
  · obtain ⟨k', hk'⟩ := old hk; exact C.fr k' c hk'
  · exfalso
    have hl : 1 ≤ lev d.ma j := hl
    rw [hma] at hl
    have : lev [] j = 0 := rfl
    omega
  · obtain ⟨k', hk'⟩ := old hk; exact (h.I.S m hm).1 k' c hk'
  · show cls'.length < _
    exact Nat.lt_of_le_of_lt hlen h.I.hb
  · obtain ⟨k', hk'⟩ := old hk
    rcases h.P k' c i x hk' hi hx hj with h1 | h1
    · exact h1.elim
    · exact .inr h1
  · obtain ⟨k', hk'⟩ := old hk; exact h.C k' c q hk' hq h0
end
end Go.Proofs.YtpmdnbdmocdngaaGreat
