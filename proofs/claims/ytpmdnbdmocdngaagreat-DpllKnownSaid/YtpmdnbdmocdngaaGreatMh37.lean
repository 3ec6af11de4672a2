/-
  Parts of the proof, joined: DpllNt, DpllNu, DpllNw.
-/
import Derived.Test.YtpmdnbdmocdngaaGreatMh36
import Derived.Test.YtpmdnbdmocdngaaGreatMh35
import Derived.Test.YtpmdnbdmocdngaaGreatMh02

namespace Go.Proofs.YtpmdnbdmocdngaaGreat
open Go.ChangeShapes Go.WideShapes Go.ChangeAt Go.RowKit
set_option linter.unusedVariables false
set_option linter.unusedSimpArgs false

/-- The frame, by what each operation brought. -/
def mkA (F K : Value) (n : Nat) (v : Nat → Value) : Act := { tmps := #[F, K, undef, undef, .pointer none, .int .i64 (n : Int), v 19, undef, undef, undef, undef, K, .int .i64 (n : Int), v 0, v 1, v 2, v 3, v 4, v 5, v 6, v 7, v 8, v 9, v 10, v 11, v 12, v 13, v 14, v 15, v 16, v 17, v 18, undef, undef, undef, undef, undef, undef, undef, undef, undef, undef, undef, undef, undef, undef, undef, undef, undef, undef, undef, undef, undef, undef, undef, undef, undef, undef, undef, undef, undef, undef, undef, undef, undef, undef, undef, undef, undef, undef, undef, undef, undef, undef, undef, undef, undef, undef, undef, undef, undef], defers := [] }
def upd (v : Nat → Value) (i : Nat) (x : Value) : Nat → Value := fun k => if k = i then x else v k
def aggS (n : Nat) (b : Bs) : Value := .agg (iCells n b)
def Gj (n : Nat) (τ : Nat → Nat) (w : World) : Nat → Value → Prop
  | 0, v | 3, v | 6, v | 8, v | 10, v | 12, v | 14, v => v = .int .i64 (n : Int)
  | 1, v | 4, v => v = .int .i64 (2 * (n : Int))
  | 2, v => ∃ g, v = sl g (2 * n) ∧ HasB w g 209 (madeCells #[.slice none 0 0] (2 * n)) ∧ τ g = 3
  | 5, v => ∃ g, v = sl g (2 * n) ∧ HasB w g 137 (madeCells #[.int .i8 0] (2 * n)) ∧ τ g = 4
  | 7, v => ∃ g, v = sl g n ∧ HasB w g 21 (madeCells #[.int .i32 0] n) ∧ τ g = 8
  | 9, v => ∃ g, v = sl g n ∧ HasB w g 21 (madeCells #[.int .i32 0] n) ∧ τ g = 9
  | 11, v => ∃ g, v = sl g n ∧ HasB w g 138 (madeCells #[.int .i32 0] n) ∧ τ g = 10
  | 13, v => ∃ g h, v = .agg #[.slice none 0 0, sl g n, sl h n, .int .i64 65536] ∧ (HasB w g 21 (madeCells #[.int .i32 (-1)] n) ∧ τ g = 12) ∧ HasB w h 2 (madeCells #[.int .i64 0] n) ∧ τ h = 13
  | 15, v => ∃ g h, v = .agg #[sl g n, .slice none 0 0, sl h (n + 1), .int .i64 0] ∧ (HasB w g 4 (madeCells #[.bool false] n) ∧ τ g = 15) ∧ HasB w h 3 (madeCells #[.int .i64 0] (n + 1)) ∧ τ h = 17
  | 16, v => v = .agg #[.int .i64 0, .int .i64 1, .int .i64 1, .int .i64 0, .int .i64 2000]
  | 17, v => ∃ b, v = aggS n b ∧ Laid n τ w b
  | 18, v | 19, v => ∃ p b, v = ptr p ∧ (HasB w p 136 (iCells n b) ∧ τ p = 1) ∧ Laid n τ w b
  | _, _ => True
section
variable {n : Nat} {τ τ' : Nat → Nat} {w w' : World}
theorem has_step {g r : Nat} {T : TypeId} {cs : Array Value} (h : HasB w g T cs ∧ τ g = r) (hb : Below w.heap.size w w') (ht : ∀ b, b < w.heap.size → τ' b = τ b) : HasB w' g T cs ∧ τ' g = r := by
  have hl := lt_of_heap h.1
  exact ⟨(hb.block g hl).trans h.1, (ht g hl).trans h.2⟩
theorem Laid.step {b : Bs} (h : Laid n τ w b) (hb : Below w.heap.size w w') (ht : ∀ b, b < w.heap.size → τ' b = τ b) : Laid n τ' w' b :=
  ⟨has_step h.wb hb ht, has_step h.wo hb ht, has_step h.dp hb ht, has_step h.wy hb ht, has_step h.lk hb ht, has_step h.pl hb ht, has_step h.sc hb ht, has_step h.se hb ht, has_step h.co hb ht⟩
theorem Gj.step {j : Nat} {v : Value} (h : Gj n τ w j v) (hb : Below w.heap.size w w') (ht : ∀ b, b < w.heap.size → τ' b = τ b) : Gj n τ' w' j v := by
  unfold Gj at h ⊢
  split <;> simp only [] at h <;> first
    | exact h
    | (obtain ⟨g, e, k⟩ := h; exact ⟨g, e, has_step k hb ht⟩)
    | (obtain ⟨g, g2, e, k, k2⟩ := h; exact ⟨g, g2, e, has_step k hb ht, has_step k2 hb ht⟩)
    | (obtain ⟨b, e, k⟩ := h; exact ⟨b, e, k.step hb ht⟩)
    | (obtain ⟨p, b, e, k, k2⟩ := h; exact ⟨p, b, e, has_step k hb ht, k2.step hb ht⟩)
end
/-- Whatever has come up. -/
def Jn (F K : Value) (n : Nat) (w0 : World) (l : Array Bool) (a : Act) (w : World) : Prop :=
  l.size = 20 ∧ ∃ (τ : Nat → Nat) (v : Nat → Value), a = mkA F K n v ∧ Below w0.heap.size w0 w ∧ (∀ k, k < w0.heap.size → τ k = 0) ∧ ∀ j, j < 20 → l[j]? = some true → Gj n τ w j (v j)
theorem Jn.next {F K : Value} {n i : Nat} {w0 w w' : World} {l : Array Bool} {τ τ' : Nat → Nat} {v : Nat → Value} {x : Value} (hl : l.size = 20) (hb0 : Below w0.heap.size w0 w) (ht0 : ∀ k, k < w0.heap.size → τ k = 0) (hG : ∀ j, j < 20 → l[j]? = some true → Gj n τ w j (v j)) (hi : i < 20) (hb : Below w.heap.size w w') (ht : ∀ b, b < w.heap.size → τ' b = τ b) (hx : Gj n τ' w' i x) :
    Jn F K n w0 (l.setIfInBounds i true) (mkA F K n (upd v i x)) w' := by
  refine ⟨by rw [Array.size_setIfInBounds]; exact hl, τ', upd v i x, rfl, hb0.trans (hb.mono hb0.size), fun k hk => by rw [ht k (Nat.lt_of_lt_of_le hk hb0.size)]; exact ht0 k hk, fun j hj hlj => ?_⟩
  unfold upd
  by_cases e : j = i
  · subst e; rw [if_pos rfl]; exact hx
  · rw [if_neg e]
    rw [Array.getElem?_setIfInBounds_ne (fun e' => e e'.symm)] at hlj
    exact (hG j hj hlj).step hb ht
end Go.Proofs.YtpmdnbdmocdngaaGreat

namespace Go.Proofs.YtpmdnbdmocdngaaGreat
open Go.ChangeShapes Go.WideShapes Go.ChangeAt Go.RowKit
set_option linter.unusedVariables false
set_option linter.unusedSimpArgs false

/-- The parts, with one block more, or two. -/
def tag1 (τ : Nat → Nat) (g r : Nat) : Nat → Nat := fun b => if b = g then r else τ b
theorem tag1_new (τ : Nat → Nat) (g r : Nat) : tag1 τ g r g = r := if_pos rfl
theorem tag1_old {τ : Nat → Nat} {g r s : Nat} (hg : s ≤ g) : ∀ b, b < s → tag1 τ g r b = τ b := fun b hb => if_neg (by omega)
theorem wp_call {P : Program} {o : Oper} {a : Act} {w : World} {f : FuncId} {args : Array Value} {K : Act → World → Prop} {Q : Exit → Act → World → Prop} (h : (execOp a.eval o).run P w = .ok (.enter f args) w) (hk : Calls P f args w fun
      | .returned v, w'' => K (a.put o.dst v) w''
      | .panicked chain, w'' => Q (.panic chain) a w''
      | .outgrown, _ => LetsOut Q) : o.wp P a w K Q := by
  unfold Oper.wp; rw [h]; exact hk
abbrev nsOps : Array Oper := #[{ dst := some 13, op := Op.move (Operand.tmp 5), type := 3, pos := "search.go:42", after := #[], guard := none }, { dst := some 14, op := Op.binOp BinOp.mul 3 (Operand.const (Value.int IntKind.i64 2)) (Operand.tmp 13) 3, type := 3, pos := "search.go:42", after := #[{ on := 0, ground := Ground.data }], guard := none }, { dst := some 15, op := Op.makeSlice 120 (Operand.tmp 14) (Operand.tmp 14), type := 120, pos := "search.go:42", after := #[{ on := 1, ground := Ground.data }, { on := 1, ground := Ground.data }], guard := none }, { dst := some 16, op := Op.move (Operand.tmp 5), type := 3, pos := "search.go:42", after := #[], guard := none }, { dst := some 17, op := Op.binOp BinOp.mul 3 (Operand.const (Value.int IntKind.i64 2)) (Operand.tmp 16) 3, type := 3, pos := "search.go:42", after := #[{ on := 3, ground := Ground.data }], guard := none }, { dst := some 18, op := Op.makeSlice 121 (Operand.tmp 17) (Operand.tmp 17), type := 121, pos := "search.go:42", after := #[{ on := 4, ground := Ground.data }, { on := 4, ground := Ground.data }], guard := none }, { dst := some 19, op := Op.move (Operand.tmp 5), type := 3, pos := "search.go:42", after := #[], guard := none }, { dst := some 20, op := Op.makeSlice 122 (Operand.tmp 19) (Operand.tmp 19), type := 122, pos := "search.go:42", after := #[{ on := 6, ground := Ground.data }, { on := 6, ground := Ground.data }], guard := none }, { dst := some 21, op := Op.move (Operand.tmp 5), type := 3, pos := "search.go:42", after := #[], guard := none }, { dst := some 22, op := Op.makeSlice 122 (Operand.tmp 21) (Operand.tmp 21), type := 122, pos := "search.go:42", after := #[{ on := 8, ground := Ground.data }, { on := 8, ground := Ground.data }], guard := none }, { dst := some 23, op := Op.move (Operand.tmp 5), type := 3, pos := "search.go:42", after := #[], guard := none }, { dst := some 24, op := Op.makeSlice 123 (Operand.tmp 23) (Operand.tmp 23), type := 123, pos := "search.go:42", after := #[{ on := 10, ground := Ground.data }, { on := 10, ground := Ground.data }], guard := none }, { dst := some 25, op := Op.move (Operand.tmp 5), type := 3, pos := "search.go:42", after := #[], guard := none }, { dst := some 26, op := Op.call { callee := Callee.value (Operand.func 59), args := #[Operand.tmp 25], argTypes := #[3] }, type := 126, pos := "search.go:48", after := #[{ on := 12, ground := Ground.data }], guard := none }, { dst := some 27, op := Op.move (Operand.tmp 5), type := 3, pos := "search.go:42", after := #[], guard := none }, { dst := some 28, op := Op.call { callee := Callee.value (Operand.func 60), args := #[Operand.tmp 27], argTypes := #[3] }, type := 129, pos := "search.go:49", after := #[{ on := 14, ground := Ground.data }, { on := 13, ground := Ground.chain }], guard := none }, { dst := some 29, op := Op.call { callee := Callee.value (Operand.func 61), args := #[], argTypes := #[] }, type := 132, pos := "search.go:50", after := #[{ on := 15, ground := Ground.chain }], guard := none }, { dst := some 30, op := Op.build 136 #[(1, Operand.tmp 15), (2, Operand.tmp 18), (6, Operand.tmp 20), (7, Operand.tmp 22), (8, Operand.tmp 24), (9, Operand.tmp 26), (10, Operand.tmp 28), (11, Operand.tmp 29)], type := 136, pos := "search.go:42", after := #[{ on := 2, ground := Ground.data }, { on := 5, ground := Ground.data }, { on := 7, ground := Ground.data }, { on := 9, ground := Ground.data }, { on := 11, ground := Ground.data }, { on := 13, ground := Ground.data }, { on := 15, ground := Ground.data }, { on := 16, ground := Ground.data }], guard := none }, { dst := some 31, op := Op.box 136 (Operand.tmp 30), type := 67, pos := "search.go:42", after := #[{ on := 17, ground := Ground.data }], guard := none }, { dst := some 6, op := Op.assign (Operand.tmp 31), type := 67, pos := "search.go:42", after := #[{ on := 18, ground := Ground.data }, { on := 16, ground := Ground.chain }, { on := 0, ground := Ground.phase }, { on := 1, ground := Ground.phase }, { on := 2, ground := Ground.phase }, { on := 3, ground := Ground.phase }, { on := 4, ground := Ground.phase }, { on := 5, ground := Ground.phase }, { on := 6, ground := Ground.phase }, { on := 7, ground := Ground.phase }, { on := 8, ground := Ground.phase }, { on := 9, ground := Ground.phase }, { on := 10, ground := Ground.phase }, { on := 11, ground := Ground.phase }, { on := 12, ground := Ground.phase }, { on := 13, ground := Ground.phase }, { on := 14, ground := Ground.phase }, { on := 15, ground := Ground.phase }, { on := 16, ground := Ground.phase }, { on := 17, ground := Ground.phase }, { on := 18, ground := Ground.phase }], guard := none }]
theorem nsWf : (List.range nsOps.size).all (fun i => match nsOps[i]? with | some x => x.after.all fun e => decide (e.on < i) | none => true) = true := by decide +kernel
def NsMid (n : Nat) (F K : Value) (w0 : World) (a : Act) (w : World) : Prop := ∃ (τ : Nat → Nat) (v : Nat → Value) (p : Nat), a = mkA F K n v ∧ v 19 = ptr p ∧ Below w0.heap.size w0 w ∧ (∀ k, k < w0.heap.size → τ k = 0) ∧ w0.heap.size ≤ p ∧ ∀ B, B ≤ w0.heap.size → Sr B τ w p n (dInit n)
set_option maxHeartbeats 6400000 in
set_option maxRecDepth 100000 in
/-- The region in which the lists are made. -/
theorem nsregion {n : Nat} {F K : Value} {w0 : World} (hn : n ≤ 65536) {Q : Exit → Act → World → Prop} (hQ : ∀ a w, NsMid n F K w0 a w → Q .normal a w) :
    (Code.region 2 nsOps true).wp Tryz.prog Q (mkA F K n (fun _ => undef)) w0 := by
  have hmk2 : ∀ w, (Instr.makeSlice 120 (.int .i64 (2 * (n : Int))) (.int .i64 (2 * (n : Int)))).run Tryz.prog w = .ok (.slice (some ⟨w.heap.size, 0, none⟩) (2 * n) (2 * n)) (w.alloc (.cells (madeCells #[.slice none 0 0] (2 * n)) 209)) := fun w => run_make_row' (P := Tryz.prog) 120 209 (.slice none 0 0) 24 Tryz.underlying120 (by kernel_rfl) rfl .i64 .i64 (2 * n) (by omega) (by omega) w
  have hmk5 : ∀ w, (Instr.makeSlice 121 (.int .i64 (2 * (n : Int))) (.int .i64 (2 * (n : Int)))).run Tryz.prog w = .ok (.slice (some ⟨w.heap.size, 0, none⟩) (2 * n) (2 * n)) (w.alloc (.cells (madeCells #[.int .i8 0] (2 * n)) 137)) := fun w => run_make_row' (P := Tryz.prog) 121 137 (.int .i8 0) 1 Tryz.underlying121 (by kernel_rfl) rfl .i64 .i64 (2 * n) (by omega) (by omega) w
  have hmk7 : ∀ w, (Instr.makeSlice 122 (.int .i64 (n : Int)) (.int .i64 (n : Int))).run Tryz.prog w = .ok (.slice (some ⟨w.heap.size, 0, none⟩) n n) (w.alloc (.cells (madeCells #[.int .i32 0] n) 21)) := fun w => run_make_row' (P := Tryz.prog) 122 21 (.int .i32 0) 4 Tryz.underlying122 infoI32 rfl .i64 .i64 n (by omega) (by omega) w
  have hmk11 : ∀ w, (Instr.makeSlice 123 (.int .i64 (n : Int)) (.int .i64 (n : Int))).run Tryz.prog w = .ok (.slice (some ⟨w.heap.size, 0, none⟩) n n) (w.alloc (.cells (madeCells #[.int .i32 0] n) 138)) := fun w => run_make_row' (P := Tryz.prog) 123 138 (.int .i32 0) 4 Tryz.underlying123 infoLit rfl .i64 .i64 n (by omega) (by omega) w
  have w63 : IntKind.i64.wrap (2 * (n : Int)) = 2 * (n : Int) := by rw [IntKind.wrap_i64]; omega
  refine region_inv (I := Jn F K n w0) (by kernel_rfl) ⟨by simp, fun _ => 0, fun _ => undef, rfl, Below.draws (Below.refl _ _) 1, fun _ _ => rfl, fun j hj h => ?_⟩ ?_ ?_
  · rw [Array.getElem?_replicate] at h; split at h <;> cases h
  · intro l a w i o hJ ho hl hdep KK hK
    obtain ⟨hs, τ, v, rfl, hb0, ht0, hG⟩ := hJ
    have hi : i < 20 := (Array.getElem?_eq_some_iff.1 ho).1
    rcases (by omega : i = 0 ∨ i = 1 ∨ i = 2 ∨ i = 3 ∨ i = 4 ∨ i = 5 ∨ i = 6 ∨ i = 7 ∨ i = 8 ∨ i = 9 ∨ i = 10 ∨ i = 11 ∨ i = 12 ∨ i = 13 ∨ i = 14 ∨ i = 15 ∨ i = 16 ∨ i = 17 ∨ i = 18 ∨ i = 19) with rfl | rfl | rfl | rfl | rfl | rfl | rfl | rfl | rfl | rfl | rfl | rfl | rfl | rfl | rfl | rfl | rfl | rfl | rfl | rfl
    · cases ho
      refine wp_op rfl rfl ?_
      refine wp_val (v := .int .i64 (n : Int)) (w' := w) rfl ?_
      exact hK _ _ (show Jn F K n w0 _ ((mkA F K n v).put (some 13) (.int .i64 (n : Int))) w from Jn.next (τ' := τ) hs hb0 ht0 hG (by omega) (Below.refl _ _) (fun _ _ => rfl) rfl)
    · cases ho
      refine wp_op rfl rfl ?_
      have e : (mkA F K n v).tmps[13]?.getD undef = .int .i64 (n : Int) := hG 0 (by omega) (hdep ⟨0, .data⟩ (by simp) rfl)
      refine wp_val (v := .int .i64 (2 * (n : Int))) (w' := w) (by go_simp) ?_
      exact hK _ _ (show Jn F K n w0 _ ((mkA F K n v).put (some 14) (.int .i64 (2 * (n : Int)))) w from Jn.next (τ' := τ) hs hb0 ht0 hG (by omega) (Below.refl _ _) (fun _ _ => rfl) rfl)
    · cases ho
      refine wp_op rfl rfl ?_
      have e : (mkA F K n v).tmps[14]?.getD undef = .int .i64 (2 * (n : Int)) := hG 1 (by omega) (hdep ⟨1, .data⟩ (by simp) rfl)
      have b1 : Below w.heap.size w (w.alloc (.cells (madeCells #[.slice none 0 0] (2 * n)) 209)) := (Below.refl _ _).alloc (Nat.le_refl _) _
      refine wp_val (v := sl w.heap.size (2 * n)) (w' := w.alloc (.cells (madeCells #[.slice none 0 0] (2 * n)) 209)) (by unfold sl; go_simp) ?_
      exact hK _ _ (show Jn F K n w0 _ ((mkA F K n v).put (some 15) (sl w.heap.size (2 * n))) _ from Jn.next (τ' := tag1 τ w.heap.size 3) hs hb0 ht0 hG (by omega) b1 (tag1_old (Nat.le_refl _)) ⟨w.heap.size, rfl, new_heap w _, tag1_new _ _ _⟩)
    · cases ho
      refine wp_op rfl rfl ?_
      refine wp_val (v := .int .i64 (n : Int)) (w' := w) rfl ?_
      exact hK _ _ (show Jn F K n w0 _ ((mkA F K n v).put (some 16) (.int .i64 (n : Int))) w from Jn.next (τ' := τ) hs hb0 ht0 hG (by omega) (Below.refl _ _) (fun _ _ => rfl) rfl)
    · cases ho
      refine wp_op rfl rfl ?_
      have e : (mkA F K n v).tmps[16]?.getD undef = .int .i64 (n : Int) := hG 3 (by omega) (hdep ⟨3, .data⟩ (by simp) rfl)
      refine wp_val (v := .int .i64 (2 * (n : Int))) (w' := w) (by go_simp) ?_
      exact hK _ _ (show Jn F K n w0 _ ((mkA F K n v).put (some 17) (.int .i64 (2 * (n : Int)))) w from Jn.next (τ' := τ) hs hb0 ht0 hG (by omega) (Below.refl _ _) (fun _ _ => rfl) rfl)
    · cases ho
      refine wp_op rfl rfl ?_
      have e : (mkA F K n v).tmps[17]?.getD undef = .int .i64 (2 * (n : Int)) := hG 4 (by omega) (hdep ⟨4, .data⟩ (by simp) rfl)
      have b1 : Below w.heap.size w (w.alloc (.cells (madeCells #[.int .i8 0] (2 * n)) 137)) := (Below.refl _ _).alloc (Nat.le_refl _) _
      refine wp_val (v := sl w.heap.size (2 * n)) (w' := w.alloc (.cells (madeCells #[.int .i8 0] (2 * n)) 137)) (by unfold sl; go_simp) ?_
      exact hK _ _ (show Jn F K n w0 _ ((mkA F K n v).put (some 18) (sl w.heap.size (2 * n))) _ from Jn.next (τ' := tag1 τ w.heap.size 4) hs hb0 ht0 hG (by omega) b1 (tag1_old (Nat.le_refl _)) ⟨w.heap.size, rfl, new_heap w _, tag1_new _ _ _⟩)
    · cases ho
      refine wp_op rfl rfl ?_
      refine wp_val (v := .int .i64 (n : Int)) (w' := w) rfl ?_
      exact hK _ _ (show Jn F K n w0 _ ((mkA F K n v).put (some 19) (.int .i64 (n : Int))) w from Jn.next (τ' := τ) hs hb0 ht0 hG (by omega) (Below.refl _ _) (fun _ _ => rfl) rfl)
    · cases ho
      refine wp_op rfl rfl ?_
      have e : (mkA F K n v).tmps[19]?.getD undef = .int .i64 ((n : Int)) := hG 6 (by omega) (hdep ⟨6, .data⟩ (by simp) rfl)
      have b1 : Below w.heap.size w (w.alloc (.cells (madeCells #[.int .i32 0] n) 21)) := (Below.refl _ _).alloc (Nat.le_refl _) _
      refine wp_val (v := sl w.heap.size n) (w' := w.alloc (.cells (madeCells #[.int .i32 0] n) 21)) (by unfold sl; go_simp) ?_
      exact hK _ _ (show Jn F K n w0 _ ((mkA F K n v).put (some 20) (sl w.heap.size n)) _ from Jn.next (τ' := tag1 τ w.heap.size 8) hs hb0 ht0 hG (by omega) b1 (tag1_old (Nat.le_refl _)) ⟨w.heap.size, rfl, new_heap w _, tag1_new _ _ _⟩)
    · cases ho
      refine wp_op rfl rfl ?_
      refine wp_val (v := .int .i64 (n : Int)) (w' := w) rfl ?_
      exact hK _ _ (show Jn F K n w0 _ ((mkA F K n v).put (some 21) (.int .i64 (n : Int))) w from Jn.next (τ' := τ) hs hb0 ht0 hG (by omega) (Below.refl _ _) (fun _ _ => rfl) rfl)
    · cases ho
      refine wp_op rfl rfl ?_
      have e : (mkA F K n v).tmps[21]?.getD undef = .int .i64 ((n : Int)) := hG 8 (by omega) (hdep ⟨8, .data⟩ (by simp) rfl)
      have b1 : Below w.heap.size w (w.alloc (.cells (madeCells #[.int .i32 0] n) 21)) := (Below.refl _ _).alloc (Nat.le_refl _) _
      refine wp_val (v := sl w.heap.size n) (w' := w.alloc (.cells (madeCells #[.int .i32 0] n) 21)) (by unfold sl; go_simp) ?_
      exact hK _ _ (show Jn F K n w0 _ ((mkA F K n v).put (some 22) (sl w.heap.size n)) _ from Jn.next (τ' := tag1 τ w.heap.size 9) hs hb0 ht0 hG (by omega) b1 (tag1_old (Nat.le_refl _)) ⟨w.heap.size, rfl, new_heap w _, tag1_new _ _ _⟩)
    · cases ho
      refine wp_op rfl rfl ?_
      refine wp_val (v := .int .i64 (n : Int)) (w' := w) rfl ?_
      exact hK _ _ (show Jn F K n w0 _ ((mkA F K n v).put (some 23) (.int .i64 (n : Int))) w from Jn.next (τ' := τ) hs hb0 ht0 hG (by omega) (Below.refl _ _) (fun _ _ => rfl) rfl)
    · cases ho
      refine wp_op rfl rfl ?_
      have e : (mkA F K n v).tmps[23]?.getD undef = .int .i64 ((n : Int)) := hG 10 (by omega) (hdep ⟨10, .data⟩ (by simp) rfl)
      have b1 : Below w.heap.size w (w.alloc (.cells (madeCells #[.int .i32 0] n) 138)) := (Below.refl _ _).alloc (Nat.le_refl _) _
      refine wp_val (v := sl w.heap.size n) (w' := w.alloc (.cells (madeCells #[.int .i32 0] n) 138)) (by unfold sl; go_simp) ?_
      exact hK _ _ (show Jn F K n w0 _ ((mkA F K n v).put (some 24) (sl w.heap.size n)) _ from Jn.next (τ' := tag1 τ w.heap.size 10) hs hb0 ht0 hG (by omega) b1 (tag1_old (Nat.le_refl _)) ⟨w.heap.size, rfl, new_heap w _, tag1_new _ _ _⟩)
    · cases ho
      refine wp_op rfl rfl ?_
      refine wp_val (v := .int .i64 (n : Int)) (w' := w) rfl ?_
      exact hK _ _ (show Jn F K n w0 _ ((mkA F K n v).put (some 25) (.int .i64 (n : Int))) w from Jn.next (τ' := τ) hs hb0 ht0 hG (by omega) (Below.refl _ _) (fun _ _ => rfl) rfl)
    · cases ho
      refine wp_op rfl rfl ?_
      have e : v 12 = .int .i64 (n : Int) := hG 12 (by omega) (hdep ⟨12, .data⟩ (by simp) rfl)
      have e' : (mkA F K n v).tmps[25]?.getD undef = .int .i64 (n : Int) := e
      refine wp_call (f := 59) (args := #[.int .i64 (n : Int)]) (by go_simp) ?_
      refine (nqueue_any n w hn).mono ?_
      rintro e2 w2 ⟨gp, gs, rfl, hb, h1, h2, hne, k1, k2⟩
      exact hK _ _ (show Jn F K n w0 _ ((mkA F K n v).put (some 26) (.agg #[.slice none 0 0, sl gp n, sl gs n, .int .i64 65536])) w2 from Jn.next (τ' := tag1 (tag1 τ gp 12) gs 13) hs hb0 ht0 hG (by omega) hb (fun b hb => (tag1_old (τ := tag1 τ gp 12) h2 b hb).trans (tag1_old h1 b hb)) ⟨gp, gs, rfl, ⟨k1, (show (if gp = gs then 13 else tag1 τ gp 12 gp) = 12 by rw [if_neg hne]; exact tag1_new _ _ _)⟩, k2, tag1_new _ _ _⟩)
    · cases ho
      refine wp_op rfl rfl ?_
      refine wp_val (v := .int .i64 (n : Int)) (w' := w) rfl ?_
      exact hK _ _ (show Jn F K n w0 _ ((mkA F K n v).put (some 27) (.int .i64 (n : Int))) w from Jn.next (τ' := τ) hs hb0 ht0 hG (by omega) (Below.refl _ _) (fun _ _ => rfl) rfl)
    · cases ho
      refine wp_op rfl rfl ?_
      have e : v 14 = .int .i64 (n : Int) := hG 14 (by omega) (hdep ⟨14, .data⟩ (by simp) rfl)
      have e' : (mkA F K n v).tmps[27]?.getD undef = .int .i64 (n : Int) := e
      refine wp_call (f := 60) (args := #[.int .i64 (n : Int)]) (by go_simp) ?_
      refine (nnotes_any n w hn).mono ?_
      rintro e2 w2 ⟨gs, gc, rfl, hb, h1, h2, hne, k1, k2⟩
      exact hK _ _ (show Jn F K n w0 _ ((mkA F K n v).put (some 28) (.agg #[sl gs n, .slice none 0 0, sl gc (n + 1), .int .i64 0])) w2 from Jn.next (τ' := tag1 (tag1 τ gs 15) gc 17) hs hb0 ht0 hG (by omega) hb (fun b hb => (tag1_old (τ := tag1 τ gs 15) h2 b hb).trans (tag1_old h1 b hb)) ⟨gs, gc, rfl, ⟨k1, (show (if gs = gc then 17 else tag1 τ gs 15 gs) = 15 by rw [if_neg hne]; exact tag1_new _ _ _)⟩, k2, tag1_new _ _ _⟩)
    · cases ho
      refine wp_op rfl rfl ?_
      refine wp_call (f := 61) (args := #[]) (by go_simp) ?_
      refine (npace_any w).mono ?_
      rintro e2 w2 ⟨rfl, hb⟩
      exact hK _ _ (show Jn F K n w0 _ ((mkA F K n v).put (some 29) (.agg #[.int .i64 0, .int .i64 1, .int .i64 1, .int .i64 0, .int .i64 2000])) w2 from Jn.next (τ' := τ) hs hb0 ht0 hG (by omega) hb (fun _ _ => rfl) rfl)
    · cases ho
      refine wp_op rfl rfl ?_
      obtain ⟨g2, e2, k2⟩ := hG 2 (by omega) (hdep ⟨2, .data⟩ (by simp) rfl)
      obtain ⟨g5, e5, k5⟩ := hG 5 (by omega) (hdep ⟨5, .data⟩ (by simp) rfl)
      obtain ⟨g7, e7, k7⟩ := hG 7 (by omega) (hdep ⟨7, .data⟩ (by simp) rfl)
      obtain ⟨g9, e9, k9⟩ := hG 9 (by omega) (hdep ⟨9, .data⟩ (by simp) rfl)
      obtain ⟨g11, e11, k11⟩ := hG 11 (by omega) (hdep ⟨11, .data⟩ (by simp) rfl)
      obtain ⟨gp, gs, e13, k13, k13'⟩ := hG 13 (by omega) (hdep ⟨13, .data⟩ (by simp) rfl)
      obtain ⟨gn, gc, e15, k15, k15'⟩ := hG 15 (by omega) (hdep ⟨15, .data⟩ (by simp) rfl)
      have e16 : v 16 = _ := hG 16 (by omega) (hdep ⟨16, .data⟩ (by simp) rfl)
      have q2 : (mkA F K n v).tmps[15]?.getD undef = _ := e2
      have q5 : (mkA F K n v).tmps[18]?.getD undef = _ := e5
      have q7 : (mkA F K n v).tmps[20]?.getD undef = _ := e7
      have q9 : (mkA F K n v).tmps[22]?.getD undef = _ := e9
      have q11 : (mkA F K n v).tmps[24]?.getD undef = _ := e11
      have q13 : (mkA F K n v).tmps[26]?.getD undef = _ := e13
      have q15 : (mkA F K n v).tmps[28]?.getD undef = _ := e15
      have q16 : (mkA F K n v).tmps[29]?.getD undef = _ := e16
      have hL : Laid n τ w ⟨g2, g5, g7, g9, g11, gp, gs, gn, gc⟩ := ⟨k2, k5, k7, k9, k11, k13, k13', k15, k15'⟩
      clear hdep
      refine wp_val (v := aggS n ⟨g2, g5, g7, g9, g11, gp, gs, gn, gc⟩) (w' := w) (by unfold aggS iCells; unfold sl at *; go_simp) ?_
      exact hK _ _ (show Jn F K n w0 _ ((mkA F K n v).put (some 30) (aggS n ⟨g2, g5, g7, g9, g11, gp, gs, gn, gc⟩)) w from Jn.next (τ' := τ) hs hb0 ht0 hG (by omega) (Below.refl _ _) (fun _ _ => rfl) ⟨_, rfl, hL⟩)
    · cases ho
      refine wp_op rfl rfl ?_
      obtain ⟨b, e, hL⟩ := hG 17 (by omega) (hdep ⟨17, .data⟩ (by simp) rfl)
      have q : (mkA F K n v).tmps[30]?.getD undef = aggS n b := e
      have b1 : Below w.heap.size w (w.alloc (.cells (iCells n b) 136)) := (Below.refl _ _).alloc (Nat.le_refl _) _
      refine wp_val (v := ptr w.heap.size) (w' := w.alloc (.cells (iCells n b) 136)) (by unfold aggS iCells at q; unfold iCells; go_simp) ?_
      exact hK _ _ (show Jn F K n w0 _ ((mkA F K n v).put (some 31) (ptr w.heap.size)) _ from Jn.next (τ' := tag1 τ w.heap.size 1) hs hb0 ht0 hG (by omega) b1 (tag1_old (Nat.le_refl _)) ⟨w.heap.size, b, rfl, ⟨new_heap w _, tag1_new _ _ _⟩, hL.step b1 (tag1_old (Nat.le_refl _))⟩)
    · cases ho
      refine wp_op rfl rfl ?_
      obtain ⟨p, b, e, k, hL⟩ := hG 18 (by omega) (hdep ⟨18, .data⟩ (by simp) rfl)
      refine wp_val (v := v 18) (w' := w) rfl ?_
      exact hK _ _ (show Jn F K n w0 _ ((mkA F K n v).put (some 6) (v 18)) w from Jn.next (τ' := τ) hs hb0 ht0 hG (by omega) (Below.refl _ _) (fun _ _ => rfl) ⟨p, b, e, k, hL⟩)
  · intro l a w hJ hr
    obtain ⟨hs, τ, v, rfl, hb0, ht0, hG⟩ := hJ
    have h19 := all_up (md := .any) (fun i x hx e he hb => ?_) (by rw [hs]; rfl) hr 19 (by decide)
    · obtain ⟨p, b, e, k, hL⟩ := hG 19 (by omega) h19
      have hp : w0.heap.size ≤ p := Nat.le_of_not_lt fun h => by have := ht0 p h; rw [k.2] at this; cases this
      exact hQ _ _ ⟨τ, v, p, rfl, e, hb0, ht0, hp, fun B hB => hL.sr hn k.1 k.2 (Nat.le_trans hB hb0.size) fun k hk => ht0 k (by omega)⟩
    · have hi := (Array.getElem?_eq_some_iff.1 hx).1
      have h := List.all_eq_true.1 nsWf i (List.mem_range.2 hi)
      rw [hx] at h
      obtain ⟨k, hk, e'⟩ := Array.mem_iff_getElem.1 he
      have := Array.all_eq_true.1 h k hk
      rw [e'] at this
      exact of_decide_eq_true this
end Go.Proofs.YtpmdnbdmocdngaaGreat

namespace Go.Proofs.YtpmdnbdmocdngaaGreat
open Go.ChangeShapes Go.WideShapes Go.ChangeAt Go.RowKit
set_option linter.unusedVariables false
set_option linter.unusedSimpArgs false

/-- What is known, by literal. -/
structure Kn (n : Nat) (t : List Int) (wo' : List Int) : Prop where
  len : wo'.length = 2 * n
  yes : ∀ (v : Nat) (x : Int), t[v]? = some x → wo'[2 * v]? = some x ∧ wo'[2 * v + 1]? = some (-x)
def K0of (w : List Int) (q : Nat) : Prop := wv w q = 1
/-- Truths under which the formula holds, and what is known. -/
def MoF (n : Nat) (f : List (List Int)) (w : List Int) (m : Nat → Bool) : Prop := (∀ c ∈ f, ∃ l ∈ c, lt_ m (litOf l) = true) ∧ ∀ q, q < 2 * n → wv w q = 1 → lt_ m q = true
theorem Kn.val {n : Nat} {t w : List Int} (h : Kn n t w) {l : Int} (hl : LOk n l) (ht : t.length = n) : wv w (litOf l) = wo t l := by
  obtain ⟨i, hi, rfl | rfl⟩ := hl.form
  · obtain ⟨x, hx⟩ : ∃ x, t[i]? = some x := ⟨_, List.getElem?_eq_getElem (by omega)⟩
    have e : litOf ((i : Int) + 1) = 2 * i := by unfold litOf; rw [if_neg (by omega)]; omega
    rw [e, wv_of (h.yes i x hx).1, wo_pos, hx]; rfl
  · obtain ⟨x, hx⟩ : ∃ x, t[i]? = some x := ⟨_, List.getElem?_eq_getElem (by omega)⟩
    have e : litOf (-((i : Int) + 1)) = 2 * i + 1 := by unfold litOf; rw [if_pos (by omega)]; omega
    rw [e, wv_of (h.yes i x hx).2, wo_neg, hx]; rfl
theorem Kn.tl {n : Nat} {t w : List Int} (h : Kn n t w) (ht : TV n t) : Wo n w := by
  have key : ∀ v, v < n → ∃ x, t[v]? = some x ∧ (x = -1 ∨ x = 0 ∨ x = 1) ∧ wv w (2 * v) = x ∧ wv w (2 * v + 1) = -x := fun v hv => by
    obtain ⟨x, hx⟩ : ∃ x, t[v]? = some x := ⟨_, List.getElem?_eq_getElem (by rw [ht.1]; exact hv)⟩
    obtain ⟨a, b⟩ := h.yes v x hx
    exact ⟨x, hx, ht.2 v x hx, wv_of a, wv_of b⟩
  refine ⟨h.len, fun q hq => ?_, fun q => ?_⟩
  · obtain ⟨x, _, _, a, b⟩ := key (q / 2) (by omega)
    unfold oth
    split
    · rw [show q = 2 * (q / 2) by omega, a, b]
    · rw [show q - 1 = 2 * (q / 2) by omega, a]
      have e : q = 2 * (q / 2) + 1 := by omega
      conv => rhs; rw [e]
      rw [b, Int.neg_neg]
  · by_cases hq : q < 2 * n
    · obtain ⟨x, _, hx, a, b⟩ := key (q / 2) (by omega)
      by_cases e : q % 2 = 0
      · rw [show q = 2 * (q / 2) by omega, a]; exact hx
      · rw [show q = 2 * (q / 2) + 1 by omega, b]; omega
    · right; left
      unfold wv
      rw [List.getD_eq_getElem?_getD, List.getElem?_eq_none (by rw [h.len]; omega)]; rfl
/-- Nothing is taken yet. -/
theorem rdy0 {n : Nat} {f : List (List Int)} {t w : List Int} {lk : List Nat} (h : Kn n t w) (ht : TV n t) (hn : n ≤ 65536) (hlk : lk.length = n) (hlike : Likes n lk) : Rdy n (K0of w) (MoF n f w) { dInit n with wo := w, lk := lk } := by
  have hw := h.tl ht
  refine ⟨⟨⟨hn, h.len, (by simp [dInit]), (by simp [dInit]), hlk, (by simp [dInit]), (by simp [dInit]), (by simp [dInit]), Nat.zero_le _, Nat.zero_le _, Nat.zero_le _⟩, ⟨hw, fun q hq => (by cases hq), List.nodup_nil, fun q hq => ?_, fun q hq => (by cases hq), List.Pairwise.nil, fun m hm => (by cases hm), fun j q hj => (by simp [dInit] at hj), Nat.le_refl _, fun m hm => (by cases hm)⟩, ⟨fun k c hk => (by simp [dInit] at hk), fun k c hk => (by simp [dInit] at hk), fun k c hk => (by simp [dInit] at hk), fun k c hk => (by simp [dInit] at hk)⟩, ⟨fun q hq k y hm => (by cases hm), fun k c i x hk => (by simp [dInit] at hk), fun q hq => List.nodup_nil, fun q hq => rfl⟩, fun j q hj => (by simp [dInit] at hj), fun m hm => ⟨fun k c hk => (by simp [dInit] at hk), fun j q hj => (by simp [dInit] at hj)⟩, (by show (0 : Nat) < _; omega)⟩, ⟨(by simp [dInit]), fun j u hj => (by simp [dInit] at hj), fun u hu _ => (by simp [dInit, hu])⟩, fun k c q hk => (by simp [dInit] at hk), rfl, rfl, rfl, hlike, Nat.le_refl _, fun u => ?_, rfl, rfl, rfl, rfl, rfl, rfl, fun v hv => (by have hv : v ∈ List.replicate n 0 := hv; rw [List.mem_replicate] at hv; omega), fun _ => rfl⟩
  · show wv w q = 1 ↔ q ∈ [] ∨ K0of w q
    unfold K0of; simp
  · show (List.replicate n false).getD u false = false
    rw [List.getD_eq_getElem?_getD, List.getElem?_replicate]
    split <;> rfl
/-- Each clause is taken care of. -/
def Cov (K0 : Nat → Prop) (d : Sd) (fs : List (List Int)) : Prop := ∀ c ∈ fs, taut (row c) = true ∨ (∃ x ∈ row c, K0 (litOf x)) ∨ ∃ (k : Nat) (cl : Cl), d.cls[k]? = some cl ∧ cl.sp = 0 ∧ ∀ q ∈ cl.ls, ∃ x ∈ row c, litOf x = q
theorem Cov.take {w0 : List Int} {d d' : Sd} {fs : List (List Int)} {c : List Int} (h : Cov (K0of w0) d fs) (hw : d.wo = w0) (k : TkRel d d' (row c) (taut (row c))) : Cov (K0of w0) d' (fs ++ [c]) := by
  intro c' hc'
  rcases List.mem_append.1 hc' with hc' | hc'
  · rcases h c' hc' with a | a | ⟨k', cl, a, b⟩
    · exact .inl a
    · exact .inr (.inl a)
    · refine .inr (.inr ⟨k', cl, ?_, b⟩)
      rcases k with ⟨e, _⟩ | ⟨ls, fr, e, _⟩
      · rw [e]; exact a
      · rw [e, List.getElem?_append_left (List.getElem?_eq_some_iff.1 a).1]; exact a
  · rw [List.mem_singleton.1 hc']
    rcases k with ⟨_, a | ⟨x, hx, hx1⟩⟩ | ⟨ls, fr, e, b⟩
    · exact .inl a
    · exact .inr (.inl ⟨x, hx, by unfold K0of; rw [← hw]; exact hx1⟩)
    · exact .inr (.inr ⟨d.cls.length, ⟨ls, 0, fr⟩, by rw [e]; simp, rfl, b⟩)
def NsPost (n : Nat) (f : List (List Int)) (t : List Int) (w : World) (e : Ending) (w' : World) : Prop :=
  ∃ τ p d w0, e = .returned (ptr p) ∧ Kn n t w0 ∧ Sr w.heap.size τ w' p n d ∧ Below w.heap.size w w' ∧ Rdy n (K0of w0) (MoF n f w0) d ∧ d.wo = w0 ∧ Cov (K0of w0) d f ∧ d.cls.length ≤ f.length
end Go.Proofs.YtpmdnbdmocdngaaGreat
