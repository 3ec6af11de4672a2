/-
  Parts of the proof, joined: DpllC7, DpllAw, DpllLw, DpllLm.
-/
import Derived.Test.YtcebpbjpbnfacaaGreatMg42
import Derived.Deep.WholeRow
import Derived.Deep.Cut
import Derived.Test.YtcebpbjpbnfacaaGreatMg40
import Derived.Test.YtcebpbjpbnfacaaGreatMg39
import Derived.Laws.AppendOwnNone

/-
  Count of package dpll.
-/
namespace Go.Proofs.YtcebpbjpbnfacaaGreat
open Go.ChangeShapes Go.WideShapes Go.ChangeAt Go.RowKit
set_option linter.unusedVariables false
set_option linter.unusedSimpArgs false

/-- How many rows of truths there are under which a formula holds. -/
def many (n : Nat) (f : List (List Int)) : Nat := ((allB n).filter (evalM · f)).length
theorem many_sols (n : Nat) (f : List (List Int)) : (sols n f (List.replicate n 0)).length = many n f := by rw [sols_zeros]; rfl
theorem many_le (n : Nat) (f : List (List Int)) : many n f ≤ 2 ^ n := by
  unfold many
  refine Nat.le_trans (List.length_filter_le _ _) ?_
  unfold allB
  rw [List.length_map, List.length_range]; exact Nat.le_refl _
theorem zeros_tv (n : Nat) : TV n (List.replicate n (0 : Int)) := ⟨List.length_replicate, fun i x hx => by
  rw [List.getElem?_replicate] at hx
  split at hx
  · injection hx with hx; exact .inr (.inl hx.symm)
  · cases hx⟩
theorem many_24 {n : Nat} (hn : n ≤ 24) (f : List (List Int)) : many n f ≤ 16777216 := by
  have h1 := many_le n f
  have h2 : 2 ^ n ≤ 2 ^ 24 := Nat.pow_le_pow_right (by decide) hn
  have e : (2 : Nat) ^ 24 = 16777216 := by decide
  omega
def CtPost (n : Nat) (f : List (List Int)) (M : Int) (w : World) (e : Ending) (w' : World) : Prop := e = .returned (.tuple #[.int .i64 (min M (many n f)), .int .i64 0]) ∧ Below w.heap.size w w'
section
variable {n : Nat} {w : World} {A : Option Addr} {f : List (List Int)} {fcap : Nat}
set_option maxHeartbeats 3200000 in
set_option maxRecDepth 4000 in
theorem ccount_any (M : Int) (hf : FormAt w A f) (hm : mayM (n : Int) f = true) (hn : n ≤ 24) (hfl : f.length ≤ 100000) (hcl : ∀ c ∈ f, c.length ≤ 100000) (hM : 0 ≤ M) (hM2 : M ≤ 9223372036854775807) :
    Calls Tryz.prog 17 #[.int .i64 (n : Int), .slice A f.length fcap, .int .i64 M] w (CtPost n f M w) := by
  have cm := may_any (n : Int) A f fcap w (by unfold Wf; omega) hf (by omega)
  rw [hm] at cm
  have okf := (may_ok hm hf.wf).2.2 n rfl
  have hno : ¬ M < 0 := by omega
  have hn2 : ¬ (24 : Int) < (n : Int) := by omega
  have HF := Lib.hid hf
  have HOK := Lib.hid okf
  have HCL := Lib.hid hcl
  have CM := Lib.hid (fun (W : World) (b : Below w.heap.size w W) => masks_any (fcap := fcap) (hf.keep b) okf hn hfl hcl)
  have HK24 := Lib.hid (many_24 hn f)
  have hcs : (cls f).length ≤ 100000 := by
    have h1 : (cls f).length ≤ f.length := by
      unfold cls; exact Nat.le_trans (List.length_filter_le _ _) (Nat.le_of_eq (List.length_map _))
    omega
  have HCS := Lib.hid hcs
  clear hf okf hcl hm hcs
  go_enter Tryz.func17, Tryz.ntmps17
  go_upto_region 3 with (go_at_call 31; ((with_reducible refine cm.mono ?_); rintro e w' ⟨rfl, rfl⟩))
  iterate 10 go_step
  refine wpList_plain rfl (fun K hK => wp_store_row 79 _ _ rfl w.heap.size #[.int .i64 0, .int .i64 M, .slice none 0 0, .slice none 0 0, .slice none 0 0, .slice none 0 0, .slice none 0 0, .slice none 0 0, .slice none 0 0, .slice none 0 0, .slice none 0 0, .slice none 0 0, .slice none 0 0, .slice none 0 0, .slice none 0 0, .slice none 0 0, .slice none 0 0, .slice none 0 0, .slice none 0 0, .slice none 0 0, .slice none 0 0, .slice none 0 0, .slice none 0 0, .slice none 0 0, .slice none 0 0, .slice none 0 0] rfl rfl _ _ (heap_alloc_last w _) (by kernel_rfl) rfl (by simp [Value.oneCell']) (hK _ _ ?_))
  rw [World.setRow_alloc_new]
  go_wp2_with fail
  (with_reducible refine (CM.out _ (below_alloc w _)).mono ?_)
  rintro e w2 ⟨τ', A2, c2, rfl, RN, ST⟩
  have hq0 : τ' w.heap.size = 0 := ST.tag _ (by simp)
  have hblk : w2.heap[w.heap.size]? = some (.cells (Value.int .i64 0 :: .int .i64 M :: List.replicate 24 (Value.slice none 0 0)).toArray 79 (0, 0)) := (ST.kept.block w.heap.size (by simp) (by decide)).trans (new_heap w _)
  have hlow : ∀ b, b < w.heap.size → τ' b = 0 := fun b hb => ST.tag b (by simp; omega)
  have b2 : Below w.heap.size w w2 := (below_alloc w _).trans ((ST.below (Nat.le_refl _) (fun _ _ => by decide)).mono (by simp))
  obtain ⟨τ0, hτ0⟩ : ∃ τ0 : Nat → Nat, τ0 = fun b => if b = w.heap.size then 9 else τ' b := ⟨_, rfl⟩
  have C0 : Ctr w.heap.size τ0 w2 w.heap.size 0 M (List.replicate 24 (Value.slice none 0 0)) := ⟨b2.size, fun b hb => by rw [hτ0]; show (if b = w.heap.size then 9 else τ' b) = 0; rw [if_neg (by omega)]; exact hlow b hb, ⟨hblk, by rw [hτ0]; exact if_pos rfl⟩, by simp, fun i v hv => by
    have : v = .slice none 0 0 := by
      rw [List.getElem?_replicate] at hv
      split at hv
      · injection hv with hv; exact hv.symm
      · cases hv
    subst this
    exact ⟨0, [], World.ownsRow_nil w2 0 _ 2, fun g hg => by cases hg⟩⟩
  have M0 : MskAt τ0 w2 8 A2 (rests f (List.replicate n 0)) := by
    rw [rests_zeros]
    intro i c hc
    obtain ⟨g, a, b, x, y, z⟩ := MskAt.row RN i c hc
    exact ⟨g, a, by rw [hτ0]; show (if g = w.heap.size then 9 else τ' g) = 8; rw [if_neg (fun e => by rw [e, hq0] at b; cases b)]; exact b, x, y, z⟩
  have CC := Lib.hid (by
    have := count_any (B := w.heap.size) (q := w.heap.size) (M := M) HOK.out hn hM2 hfl n τ0 w2 _ 0 8 A2 (List.replicate n 0) c2 C0 M0 (by decide) (by omega) (zeros_tv n) (by simp) (Int.le_refl _) hM (by rw [many_sols]; have := HK24.out; omega) (by rw [rests_zeros]; exact HCS.out)
    rw [rests_zeros, many_sols] at this
    exact this)
  have B2 := Lib.hid b2
  have HLOW := Lib.hid (show ∀ b, b < w.heap.size → τ0 b = 0 from C0.low)
  clear RN ST hq0 hblk hlow b2 hτ0 C0 M0 CM
  go_wp2_with fail
  (with_reducible refine CC.out.mono ?_)
  rintro e w3 ⟨rfl, τ3, vs3, C3, K3⟩
  obtain ⟨x0, _, _⟩ := C3.cells
  have zq := C3.blk.lt
  have B3 := Lib.hid (B2.out.trans (K3.below B2.out.size (fun b hb h => by rw [HLOW.out b hb] at h; omega)))
  rw [Int.zero_add] at x0
  have HE : Hid (CtPost n f M w (.returned (.tuple #[.int .i64 (min M (many n f)), .int .i64 0])) w3) := ⟨rfl, B3.out⟩
  clear C3 K3 CC
  go_wp2_with fail
  go_ret2
  exact HE.out
/-- Refused. -/
theorem ccount_no (k M : Int) (hk : Wf k) (hf : FormAt w A f) (hfl : f.length ≤ 9223372036854775807) (h : M < 0 ∨ 24 < k ∨ mayM k f = false) :
    Calls Tryz.prog 17 #[.int .i64 k, .slice A f.length fcap, .int .i64 M] w fun e w' => e = .returned (.tuple #[.int .i64 0, .int .i64 1]) ∧ w = w' := by
  have cm := may_any k A f fcap w hk hf hfl
  by_cases hb : M < 0
  · clear hf h cm
    go_enter Tryz.func17, Tryz.ntmps17
    go_wp2_with fail
    go_ret2
    exact ⟨rfl, rfl⟩
  · by_cases hk2 : 24 < k
    · clear hf h cm
      go_enter Tryz.func17, Tryz.ntmps17
      go_wp2_with fail
      go_ret2
      exact ⟨rfl, rfl⟩
    · rw [(h.resolve_left hb).resolve_left hk2] at cm
      clear hf h
      go_enter Tryz.func17, Tryz.ntmps17
      go_wp2_with (go_at_call 31; ((with_reducible refine cm.mono ?_); rintro e w' ⟨rfl, rfl⟩))
      go_ret2
      exact ⟨rfl, rfl⟩
end
end Go.Proofs.YtcebpbjpbnfacaaGreat

/-
  What the laws of dpll go by: Solve and Count at formulas that a law lays itself, what Solve finds where it may decide as often as it takes, the document's example.
-/
namespace Go.Proofs.YtcebpbjpbnfacaaGreat
open Go.ChangeShapes Go.WideShapes Go.ChangeAt Go.RowKit
set_option linter.unusedVariables false
set_option linter.unusedSimpArgs false

/-- Enough decisions. -/
theorem grant_max {n : Nat} {b : Int} (h : 0 < b / 2 ^ (min (n : Int) 40).toNat) : grant n b = 9223372036854775807 := by unfold grant; rw [if_pos h]
theorem many_zero {n : Nat} {f : List (List Int)} : many n f = 0 ↔ ∀ m : List Bool, m.length = n → evalM m f = false := by
  unfold many
  rw [List.length_eq_zero_iff, List.filter_eq_nil_iff]
  constructor
  · intro h m hm
    have := h m (mem_allB.2 hm)
    simpa using this
  · intro h m hm
    rw [h m (mem_allB.1 hm)]; decide
theorem many_pos {n : Nat} {f : List (List Int)} {m : List Bool} (hm : m.length = n) (he : evalM m f = true) : 0 < many n f := by
  rcases Nat.eq_zero_or_pos (many n f) with h | h
  · rw [many_zero.1 h m hm] at he; cases he
  · exact h
/-- What Solve answers where it may decide as often as it takes. -/
def SfPost (n : Nat) (f : List (List Int)) (w : World) (e : Ending) (w' : World) : Prop := Below w.heap.size w w' ∧
  ((∃ (m : List Bool) (g : Nat), e = .returned (.tuple #[.int .i64 1, .slice (some ⟨g, 0, none⟩) n n, .int .i64 0]) ∧ w.heap.size ≤ g ∧ HasB w' g 4 (m.map Value.bool).toArray ∧ m.length = n ∧ evalM m f = true) ∨
   (e = .returned (.tuple #[.int .i64 2, .slice none 0 0, .int .i64 0]) ∧ many n f = 0))
theorem SvPost.full {n : Nat} {f : List (List Int)} {b : Int} {w : World} {e : Ending} {w' : World} (h : SvPost n f b w e w') (hg : grant n b = 9223372036854775807) : SfPost n f w e w' := by
  obtain ⟨a, h | ⟨h1, h2⟩ | ⟨_, h2, _⟩⟩ := h
  · exact ⟨a, .inl h⟩
  · exact ⟨a, .inr ⟨h1, many_zero.2 h2⟩⟩
  · exact absurd hg h2
/-- Formulas that a law lays itself. -/
def litOk (f : List (List Int)) : Bool := decide (f.length ≤ 100) && f.all fun c => decide (c.length ≤ 100) && c.all fun x => decide (-9223372036854775808 ≤ x ∧ x ≤ 9223372036854775807)
theorem lit_form {f : List (List Int)} (h : litOk f = true) (w : World) : FormAt ((lay w f).alloc (.cells (rv w.heap.size f).toArray 37)) (some ⟨w.heap.size + f.length, 0, none⟩) f ∧ f.length ≤ 100 ∧ (∀ c ∈ f, c.length ≤ 100000) ∧ Below w.heap.size w ((lay w f).alloc (.cells (rv w.heap.size f).toArray 37)) := by
  unfold litOk at h
  simp only [Bool.and_eq_true, decide_eq_true_eq, List.all_eq_true] at h
  obtain ⟨h3, h4⟩ := h
  obtain ⟨b1, e1, r1⟩ := lay_ok f w (fun c hc => by have := (h4 c hc).1; omega)
  exact ⟨rows_form 37 e1 r1 (fun c hc l hl => (h4 c hc).2 l hl), h3, fun c hc => by have := (h4 c hc).1; omega, Below.plus b1 _⟩
theorem solve_lit (w : World) (n : Nat) (f : List (List Int)) (b : Int) (h : litOk f = true) (hm : mayM (n : Int) f = true) (hn : n ≤ 10) (hb : 0 ≤ b) (hb2 : b ≤ 9223372036854775807) (hg : 0 < b / 2 ^ (min (n : Int) 40).toNat) :
    Calls Tryz.prog 13 #[.int .i64 (n : Int), .slice (some ⟨w.heap.size + f.length, 0, none⟩) f.length f.length, .int .i64 b] ((lay w f).alloc (.cells (rv w.heap.size f).toArray 37)) (SfPost n f w) := by
  obtain ⟨h1, h2, h3, h4⟩ := lit_form h w
  refine (solve_any (fcap := f.length) b h1 hm (by omega) (Nat.le_refl _) (by omega) h3 hb hb2 (start_ok_ten hn (by omega))).mono fun e w' k => ?_
  obtain ⟨k1, k2⟩ := k.full (grant_max hg)
  refine ⟨Below.on h4 k1, ?_⟩
  rcases k2 with ⟨m, g, a, c, d⟩ | k2
  · exact .inl ⟨m, g, a, Nat.le_trans h4.size c, d⟩
  · exact .inr k2
theorem count_lit (w : World) (n : Nat) (f : List (List Int)) (M : Int) (h : litOk f = true) (hm : mayM (n : Int) f = true) (hn : n ≤ 24) (hM : 0 ≤ M) (hM2 : M ≤ 9223372036854775807) :
    Calls Tryz.prog 17 #[.int .i64 (n : Int), .slice (some ⟨w.heap.size + f.length, 0, none⟩) f.length f.length, .int .i64 M] ((lay w f).alloc (.cells (rv w.heap.size f).toArray 37)) (CtPost n f M w) := by
  obtain ⟨h1, h2, h3, h4⟩ := lit_form h w
  exact (ccount_any (fcap := f.length) M h1 hm hn (by omega) h3 hM hM2).mono fun e w' k => ⟨k.1, Below.on h4 k.2⟩
set_option maxHeartbeats 1600000 in
theorem awake6_any (w : World) : Calls Tryz.prog 11 #[] w fun e w' => e = .returned (.bool true) ∧ Below w.heap.size w w' := by
  have C1 := Lib.hid (fun W => show Calls Tryz.prog 13 #[.int .i64 2, _, _] _ _ from solve_lit W 2 [[1, 2], [-1], [-2]] 1000 (by decide) (by decide) (by decide) (by decide) (by decide) (by decide))
  have C2 := Lib.hid (fun W => show Calls Tryz.prog 13 #[.int .i64 2, _, _] _ _ from solve_lit W 2 [[1, 2], [-1]] 1000 (by decide) (by decide) (by decide) (by decide) (by decide) (by decide))
  have C3 := Lib.hid (fun W => show Calls Tryz.prog 17 #[.int .i64 2, _, _] _ _ from count_lit W 2 [[1, 2]] 9 (by decide) (by decide) (by decide) (by decide) (by decide))
  have H1 : Hid (∀ m : List Bool, m.length = 2 → evalM m [[1, 2], [-1], [-2]] = true → False) := fun m hm he => by
    match m, hm with
    | [a, b], _ => revert he; revert a b; decide
  have H2 : Hid (∀ m : List Bool, m.length = 2 → evalM m [[1, 2], [-1]] = true → m = [false, true]) := fun m hm he => by
    match m, hm with
    | [a, b], _ => revert he; revert a b; decide
  have H3 := Lib.hid (show many 2 [[1, 2], [-1]] ≠ 0 by decide +kernel)
  have H4 := Lib.hid (show min (9 : Int) (many 2 [[1, 2]]) = 3 by decide +kernel)
  go_enter Tryz.func11, Tryz.ntmps11
  go_wp2_with fail
  (refine (C1.out _).mono ?_)
  rintro e w1 ⟨b1, ⟨m, g, _, _, _, hm, he⟩ | ⟨rfl, _⟩⟩
  · exact absurd he (fun h => H1.out m hm h)
  have B1 := Lib.hid b1
  clear b1 C1
  go_wp2_with fail
  (refine (C2.out _).mono ?_)
  rintro e w2 ⟨b2, h⟩
  rcases h.symm with ⟨_, h0⟩ | ⟨m, g, rfl, hgw, hb, hm, he⟩
  · exact absurd h0 H3.out
  obtain rfl := H2.out m hm he
  have B2 := Lib.hid (Below.on B1.out b2)
  have HB := Lib.hid hb
  have hgl := lt_of_heap hb
  clear b2 C2 hb he hm
  go_wp2_with fail
  (refine (C3.out _).mono ?_)
  rintro e w3 ⟨rfl, b3⟩
  have B3 := Lib.hid (Below.on B2.out b3)
  have hb3 : HasB w3 g 4 #[.bool false, .bool true] := (b3.block g hgl).trans HB.out
  have x0 := hb3.cell 0
  have x1 := hb3.cell 1
  have z3 := lt_of_heap hb3
  rw [H4.out]
  clear b3 C3 hb3
  go_wp2_with fail
  go_ret
  exact ⟨rfl, B3.out⟩
end Go.Proofs.YtcebpbjpbnfacaaGreat

/-
  What dpll's laws share: clauses appended to a formula, Solve at a formula of few numbers.
-/
namespace Go.Proofs.YtcebpbjpbnfacaaGreat
open Go.ChangeShapes Go.WideShapes Go.ChangeAt Go.RowKit
set_option linter.unusedVariables false
set_option linter.unusedSimpArgs false

theorem RowsOK.append {w : World} {n1 n2 : List Value} {f g : List (List Int)} (h : RowsOK w n1 f) (k : RowsOK w n2 g) : RowsOK w (n1 ++ n2) (f ++ g) := by
  refine ⟨by rw [List.length_append, List.length_append, h.1, k.1], fun i c hc => ?_⟩
  by_cases hi : i < f.length
  · rw [List.getElem?_append_left hi] at hc
    rw [List.getElem?_append_left (by rw [h.1]; exact hi)]; exact h.2 i c hc
  · rw [List.getElem?_append_right (by omega)] at hc
    rw [List.getElem?_append_right (by rw [h.1]; omega), h.1]; exact k.2 _ c hc
theorem form_cells {w : World} {A : Option Addr} {f : List (List Int)} (h : FormAt w A f) : ∃ news, RowsOK w news f ∧ ∀ (i : Nat) (u : Value), news[i]? = some u → ∃ a, A = some a ∧ w.cell? (a.add i) = some u := by
  have key : ∀ k, k ≤ f.length → ∃ news : List Value, RowsOK w news (f.take k) ∧ ∀ (i : Nat) (u : Value), news[i]? = some u → ∃ a, A = some a ∧ w.cell? (a.add i) = some u := by
    intro k
    induction k with
    | zero => exact fun _ => ⟨[], ⟨by simp, fun i c hc => by simp at hc⟩, fun i u hu => by simp at hu⟩
    | succ k ih =>
      intro hk
      obtain ⟨news, h1, h2⟩ := ih (by omega)
      have hlk : (f.take k).length = k := by rw [List.length_take]; omega
      obtain ⟨c, hc⟩ : ∃ c, f[k]? = some c := ⟨_, List.getElem?_eq_getElem (by omega)⟩
      obtain ⟨a, B, cap, ha, hce, hs, hl⟩ := h.get k c hc
      have e : f.take (k + 1) = f.take k ++ [c] := by
        rw [List.take_succ_eq_append_getElem (by omega), (List.getElem?_eq_some_iff.1 hc).2]
      refine ⟨news ++ [.slice B c.length cap], ?_, fun i u hu => ?_⟩
      · rw [e]
        refine h1.append ⟨rfl, fun i d hd => ?_⟩
        have hi := (List.getElem?_eq_some_iff.1 hd).1
        obtain rfl : i = 0 := by simpa using hi
        simp at hd; subst hd
        exact ⟨B, cap, rfl, hs, hl⟩
      · by_cases hi : i < news.length
        · rw [List.getElem?_append_left hi] at hu; exact h2 i u hu
        · rw [List.getElem?_append_right (by omega)] at hu
          have hi2 := (List.getElem?_eq_some_iff.1 hu).1
          have hn : news.length = k := by rw [h1.1, hlk]
          simp at hi2
          obtain rfl : i = k := by omega
          rw [hn, Nat.sub_self] at hu
          simp at hu; subst hu
          exact ⟨a, ha, hce⟩
  obtain ⟨news, h1, h2⟩ := key f.length (Nat.le_refl _)
  rw [List.take_length] at h1
  exact ⟨news, h1, h2⟩
theorem rows_cells {w : World} {news : List Value} {f : List (List Int)} (h : RowsOK w news f) : ∀ u ∈ news, u.oneCell' = true := by
  intro u hu
  obtain ⟨i, hi, rfl⟩ := List.mem_iff_getElem.1 hu
  obtain ⟨B, cap, h1, _⟩ := h.2 i _ (List.getElem?_eq_getElem (by rw [← h.1]; exact hi))
  rw [List.getElem?_eq_getElem hi] at h1
  injection h1 with h1; rw [h1]; rfl
theorem rapp_any {P : Program} {w : World} {ops : Array Oper} {rest : List Oper} {o : Oper} {a : Act} {Q : Exit → Act → World → Prop} (hgd : o.guard = none) (s x : Operand) (t : TypeId)
    (ho : o.op = .call { callee := .builtin .append, args := #[s, x], argTypes := #[t, t] })
    (wr : World) (e : TypeId) (i : TypeInfo) (z : Value) (bytes : Nat) (ht : P.underlying t = some (.slice e)) (hi : P.info? e = some i) (hz : i.zero = some z)
    (hsize : i.size = 1) (hby : i.bytes = bytes) (hzs : z.cells.size = 1)
    (v : Value) (n : Nat) (xs : List Value) (hs : a.eval s = v) (hown : w.ownsRow wr.heap.size e 1 v n xs) (hb : Below wr.heap.size wr w)
    (X : Option Addr) (m c : Nat) (news : List Value) (hx : a.eval x = .slice X m c) (hnil : X = none → m = 0 ∧ c = 0) (hl : news.length = m) (hnews : ∀ j u, news[j]? = some u → ∃ ad, X = some ad ∧ w.cell? (ad.add j) = some u) (h1 : ∀ u ∈ news, u.oneCell' = true)
    (h63 : n + m ≤ maxLen) (hbytes : (n + m) * bytes ≤ 140737488355328)
    (h : ∀ v' w', w'.ownsRow wr.heap.size e 1 v' (n + m) (xs ++ news) → Below wr.heap.size wr w' → wpList P ops Q rest (a.put o.dst v') w') : wpList P ops Q (o :: rest) a w := by
  cases X with
  | none =>
    obtain ⟨rfl, rfl⟩ := hnil rfl
    have : news = [] := List.eq_nil_of_length_eq_zero hl
    subst this
    exact wpList_append_own_none hgd s x t ho wr.heap.size e i 1 ht hi v n xs hs hown hx (h v w (by simpa using hown) hb)
  | some ad =>
    refine wpList_append_own w hgd s x t ho wr.heap.size e i z 1 bytes ht hi hz hsize hby hzs (by omega) v n xs hs hown ad m c news hx (by omega) (fun j u hu => by
      obtain ⟨a2, h2, h3⟩ := hnews j u hu
      injection h2 with h2; subst h2; exact h3) h1 h63 hbytes hb.size fun v' w' h2 h3 _ => h v' w' h2 (hb.grown h3 hb.size fun k hk => ?_)
    rcases hown.2 with ⟨h0, _⟩ | ⟨g', c, cur, h0, hb, _⟩
    · subst h0; simp [Value.ownBlock] at hk
    · subst h0; simp [Value.ownBlock] at hk; omega
theorem eval_app2 (m : List Bool) (f g : List (List Int)) : evalM m (f ++ g) = (evalM m f && evalM m g) := by unfold evalM; rw [List.all_append]
theorem own_shape {w : World} {base : Nat} {e : TypeId} {v : Value} {n : Nat} {xs : List Value} (h : w.ownsRow base e 1 v n xs) : ∃ X cap, v = .slice X n cap := by
  rcases h.2 with ⟨h0, h1⟩ | ⟨g, c, cur, h0, _⟩
  · exact ⟨none, 0, by rw [h0, h1]⟩
  · exact ⟨_, c, h0⟩

/-- A formula of an argument; nothing, where it is nil. -/
def FormN (W : World) (v : Value) : Prop := FormB W v ∧ ∀ n c, v = .slice none n c → n = 0 ∧ c = 0
theorem solve_ten {A : Option Addr} {f : List (List Int)} {fcap n : Nat} {w : World} (hf : FormAt w A f) (hm : mayM (n : Int) f = true) (hn : n ≤ 10) (hfl : f.length ≤ 463) (hcl : ∀ c ∈ f, c.length ≤ 100000) :
    Calls Tryz.prog 13 #[.int .i64 (n : Int), .slice A f.length fcap, .int .i64 1099511627776] w (SfPost n f w) :=
  (solve_any (f0 := 463) 1099511627776 hf hm (by omega) hfl (by omega) hcl (by decide) (by decide) (start_ok_ten hn (by omega))).mono fun e w' k => k.full (grant_max (by
    have h1 : (min (n : Int) 40).toNat = n := by omega
    rw [h1]
    have h2 : (2 : Int) ^ n ≤ 1024 := by
      have := Nat.pow_le_pow_right (n := 2) (by decide) hn
      have e : ((2 ^ n : Nat) : Int) = (2 : Int) ^ n := Int.natCast_pow 2 n
      rw [← e]; have : 2 ^ n ≤ 1024 := this; omega
    have h3 : (0 : Int) < 2 ^ n := Int.pow_pos (by decide)
    have h4 : (1 : Int) ≤ 1099511627776 / 2 ^ n := (Int.le_ediv_iff_mul_le h3).2 (by omega)
    omega))
end Go.Proofs.YtcebpbjpbnfacaaGreat

/-
  How many rows of truths there are: with one clause more; with one row forbidden; with numbers turned round. Plain mathematics.
-/
namespace Go.Proofs.YtcebpbjpbnfacaaGreat
set_option linter.unusedVariables false
set_option linter.unusedSimpArgs false

theorem eval_one (m : List Bool) (c : List Int) : evalM m [c] = evalC m c := by unfold evalM; simp
theorem many_more (n : Nat) (f : List (List Int)) (c : List Int) : many n (f ++ [c]) ≤ many n f := by
  unfold many
  have e : ((allB n).filter (evalM · (f ++ [c]))) = ((allB n).filter fun bs => evalM bs f && evalC bs c) := List.filter_congr fun bs _ => by rw [eval_app2, eval_one]
  rw [e, filter_split (fun bs => evalM bs f) (fun bs => evalC bs c)]
  exact Nat.le_add_right _ _
/-- The clause that forbids one row alone. -/
def negs (m : List Bool) : List Int := (List.range m.length).map fun (i : Nat) => if m[i]?.getD false = true then -((i : Int) + 1) else (i : Int) + 1
theorem negs_len (m : List Bool) : (negs m).length = m.length := by simp [negs]
theorem negs_eval {m bs : List Bool} {n : Nat} (hn : n ≤ 65536) (hm : m.length = n) (hb : bs.length = n) : evalC bs (negs m) = !decide (bs = m) := by
  rw [Bool.eq_iff_iff, Bool.not_eq_true', decide_eq_false_iff_not]
  unfold evalC
  rw [List.any_eq_true]
  have key : ∀ i, i < n → ∃ a b, m[i]? = some a ∧ bs[i]? = some b ∧ holdsM bs (if m[i]?.getD false = true then -((i : Int) + 1) else (i : Int) + 1) = (a != b) := fun i hi => by
    obtain ⟨a, ha⟩ : ∃ a, m[i]? = some a := ⟨_, List.getElem?_eq_getElem (by omega)⟩
    obtain ⟨b, hbb⟩ : ∃ b, bs[i]? = some b := ⟨_, List.getElem?_eq_getElem (by omega)⟩
    refine ⟨a, b, ha, hbb, ?_⟩
    rw [ha]
    cases a with
    | true =>
      simp only [Option.getD_some, if_true]
      rw [holds_one bs _ i b (by rw [numb_neg (by omega) (by omega)]; omega) (by rw [hbb]; rfl), decide_eq_false (by omega)]
      cases b <;> rfl
    | false =>
      simp only [Option.getD_some]
      rw [if_neg (by simp), holds_one bs _ i b (numb_pos (by omega)) (by rw [hbb]; rfl), decide_eq_true (by omega)]
      cases b <;> rfl
  constructor
  · rintro ⟨x, hx, h⟩ e
    subst e
    unfold negs at hx
    obtain ⟨i, hi, rfl⟩ := List.mem_map.1 hx
    obtain ⟨a, b, h1, h2, h3⟩ := key i (by have := List.mem_range.1 hi; omega)
    rw [h1] at h2; injection h2 with h2
    rw [h3, h2] at h; simp at h
  · intro hne
    by_cases hall : ∀ i, i < n → bs[i]? = m[i]?
    · exact absurd (List.ext_getElem? fun i => by
        by_cases hi : i < n
        · exact hall i hi
        · rw [List.getElem?_eq_none (by omega), List.getElem?_eq_none (by omega)]) hne
    · obtain ⟨i, hi⟩ := Classical.not_forall.1 hall
      obtain ⟨hi, hd⟩ := Classical.not_imp.1 hi
      obtain ⟨a, b, h1, h2, h3⟩ := key i hi
      refine ⟨_, List.mem_map.2 ⟨i, List.mem_range.2 (by omega), rfl⟩, ?_⟩
      rw [h3]
      rw [h1, h2] at hd
      cases a <;> cases b <;> simp at hd ⊢
theorem one_len {α : Type} [DecidableEq α] {m : α} : ∀ {l : List α}, l.Nodup → m ∈ l → (l.filter fun x => decide (x = m)).length = 1
  | [], _, h => by cases h
  | a :: l, hn, h => by
    obtain ⟨h1, h2⟩ := List.nodup_cons.1 hn
    rw [List.filter_cons]
    by_cases e : a = m
    · subst e
      rw [if_pos (by simp)]
      have : (l.filter fun x => decide (x = a)) = [] := List.filter_eq_nil_iff.2 fun x hx hd => h1 (by rw [← of_decide_eq_true hd]; exact hx)
      rw [this]; rfl
    · rw [if_neg (by simpa using e)]
      exact one_len h2 ((List.mem_cons.1 h).resolve_left (fun k => e k.symm))
theorem many_not {n : Nat} (hn : n ≤ 65536) {f : List (List Int)} {m : List Bool} (hm : m.length = n) (he : evalM m f = true) : many n (f ++ [negs m]) + 1 = many n f := by
  unfold many
  have e : ((allB n).filter (evalM · (f ++ [negs m]))) = ((allB n).filter fun bs => evalM bs f && !decide (bs = m)) := List.filter_congr fun bs hb => by rw [eval_app2, eval_one, negs_eval hn hm (mem_allB.1 hb)]
  have e2 : ((allB n).filter fun bs => evalM bs f && !(!decide (bs = m))) = ((allB n).filter fun bs => decide (bs = m)) := List.filter_congr fun bs hb => by
    rw [Bool.not_not]
    by_cases h : bs = m
    · subst h; rw [he]; simp
    · simp [h]
  rw [e, filter_split (fun bs => evalM bs f) (fun bs => !decide (bs = m)), e2, one_len (allB_nodup n) (mem_allB.2 hm)]
theorem may_app {n : Int} {f g : List (List Int)} (h : mayM n f = true) (k : mayM n g = true) : mayM n (f ++ g) = true := by
  unfold mayM at h k ⊢
  rw [Bool.and_eq_true] at h k ⊢
  exact ⟨h.1, by rw [List.all_append, h.2, k.2]; rfl⟩
theorem may_negs {n : Nat} (hn : n ≤ 65536) {m : List Bool} (hm : m.length = n) : mayM (n : Int) [negs m] = true := by
  unfold mayM
  rw [Bool.and_eq_true]
  refine ⟨decide_eq_true ⟨by omega, by omega⟩, ?_⟩
  rw [List.all_cons, List.all_nil, Bool.and_true, List.all_eq_true]
  intro x hx
  unfold negs at hx
  obtain ⟨i, hi, rfl⟩ := List.mem_map.1 hx
  have hi := List.mem_range.1 hi
  refine (okL_ref (by omega) (by omega) ?_).2 ?_
  · unfold Wf; split <;> omega
  · split <;> omega
end Go.Proofs.YtcebpbjpbnfacaaGreat
