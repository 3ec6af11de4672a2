/-
  Parts of the proof, joined: DpllC6, DpllC7, DpllAw.
-/
import Derived.Test.YtpmdnbdmocdngaaGreatMh44
import Derived.Test.YtpmdnbdmocdngaaGreatMh04
import Derived.Test.YtpmdnbdmocdngaaGreatMh40
import Derived.Deep.WholeRow
import Derived.Deep.Cut
import Derived.Test.YtpmdnbdmocdngaaGreatMh42

namespace Go.Proofs.YtpmdnbdmocdngaaGreat
open Go.ChangeShapes Go.WideShapes Go.ChangeAt Go.RowKit
set_option linter.unusedVariables false
set_option linter.unusedSimpArgs false

def MoPost (f : List (List Int)) (w : World) (e : Ending) (w' : World) : Prop :=
  ∃ τ' A cap, e = .returned (.slice A (cls f).length cap) ∧ RowN τ' 8 w' 147 2 (.slice A (cls f).length cap) (cls f).length (mkCells (cls f)) ∧ Step (fun r => r = 8) (fun _ => 0) τ' w w'
structure MoR (w : World) (l : List (List Int)) (τ' : Nat → Nat) (wr : World) (A : Option Addr) (cap : Nat) : Prop where
  R : RowN τ' 8 wr 147 2 (.slice A l.length cap) l.length (mkCells l)
  T : Step (fun r => r = 8) (fun _ => 0) τ' w wr
theorem MoR.below {w : World} {l : List (List Int)} {τ' : Nat → Nat} {wr W : World} {A : Option Addr} {cap : Nat} (h : MoR w l τ' wr A cap) (b : Below wr.heap.size wr W) : MoR w l τ' W A cap :=
  ⟨h.R.step (Step.of_below (fun _ => False) τ' b) id, h.T.trans (Step.of_below _ τ' b)⟩
theorem MoR.base {w : World} {l : List (List Int)} {τ' : Nat → Nat} {wr : World} {A : Option Addr} {cap : Nat} (h : MoR w l τ' wr A cap) : Below w.heap.size w wr := h.T.below (Nat.le_refl _) (fun _ _ => by decide)
theorem taken_snoc {α : Type} {l : List α} {i : Nat} {x : α} (h : l[i]? = some x) : l.take (i + 1) = l.take i ++ [x] := by
  obtain ⟨h1, h2⟩ := List.getElem?_eq_some_iff.1 h
  rw [List.take_succ_eq_append_getElem h1, h2]
theorem or_bit {P k : Nat} (hP : P < 2 ^ 24) (hk : k < 24) : bits .or .u32 (P : Int) ((2 : Int) ^ min k 32 % 4294967296) = ((P ||| 2 ^ k : Nat) : Int) := by
  have e : ((2 ^ k : Nat) : Int) = (2 : Int) ^ k := Int.natCast_pow 2 k
  have h : 2 ^ k < 2 ^ 24 := Nat.pow_lt_pow_right (by decide) hk
  have e2 : (2 : Nat) ^ 24 = 16777216 := rfl
  rw [e2] at h hP
  rw [Nat.min_eq_left (by omega), ← e]
  clear e
  generalize 2 ^ k = Z at *
  rw [Int.emod_eq_of_lt (by omega) (by omega)]
  exact u32_or_nat _ _ (by omega) (by omega)
section
variable {n : Nat} {w : World} {A : Option Addr} {f : List (List Int)} {fcap : Nat}
set_option maxHeartbeats 6400000 in
set_option maxRecDepth 4000 in
theorem masks_any (hf : FormAt w A f) (okf : FOk n f) (hn : n ≤ 24) (hfl : f.length ≤ 100000) (hcl : ∀ c ∈ f, c.length ≤ 100000) :
    Calls Tryz.prog 35 #[.slice A f.length fcap] w (MoPost f w) := by
  have R0 : Hid (MoR w (cls (f.take 0)) (fun _ => 0) w none 0) := ⟨⟨World.ownsRow_nil w 0 _ 2, fun g hg => by cases hg⟩, Step.refl _ _ _⟩
  obtain ⟨i0, hi0, hz0, hz1, hz2⟩ := info_parts infoMsk
  have HI := Lib.hid (show _ ∧ _ ∧ _ ∧ _ from ⟨hi0, hz0, hz1, hz2⟩)
  have HF := Lib.hid hf
  have HOK := Lib.hid okf
  have HCL := Lib.hid hcl
  clear hi0 hz0 hz1 hz2 hf okf hcl
  go_enter Tryz.func35, Tryz.ntmps35
  go_wp2_with fail
  go_loopw [3, 13] (fun lv iv wr => ∃ (i : Nat) (A2 : Option Addr) (c2 : Nat) (τ' : Nat → Nat), i ≤ f.length ∧ iv = .int .i64 i ∧ lv = .slice A2 (cls (f.take i)).length c2 ∧ Hid (MoR w (cls (f.take i)) τ' wr A2 c2)) (fun _ iv _ => f.length - (intOf iv).toNat)
  case atStart => exact ⟨0, none, 0, _, Nat.zero_le _, rfl, rfl, R0⟩
  case round =>
    obtain ⟨i, A2, c2, τ', hi, rfl, rfl, R⟩ := hrel
    clear R0
    by_cases hlt : i < f.length
    · obtain ⟨c, hc⟩ : ∃ c, f[i]? = some c := ⟨_, List.getElem?_eq_getElem hlt⟩
      have hmem := List.mem_of_getElem? hc
      obtain ⟨a, C, ccap, rfl, hce, hs, _⟩ := HF.out.get i c hc
      have za := HF.out.lt a rfl
      have xi : wr.cell? (a.add i) = some (.slice C c.length ccap) := (R.out.base.cell (p := a.add i) (by rw [add_block]; exact za)).trans hce
      have CN := Lib.hid (normal_any C c ccap wr (hs.keep R.out.base) (HF.out.wf c hmem) (HCL.out c hmem))
      have b3 : (0 : Int) ≤ (i : Int) := by omega
      have b4 : (i : Int) < (f.length : Int) := by omega
      have HTK := Lib.hid (taken_snoc hc)
      have hrl : (row c).length ≤ 100000 := Nat.le_trans (row_len c) (HCL.out c hmem)
      have HRO := Lib.hid (show ∀ x ∈ row c, LOk n x from fun x hx => HOK.out c hmem x (row_mem hx))
      clear hc hs hce hmem
      go_wp2_with fail
      (with_reducible refine CN.out.mono ?_)
      rintro e w1 ⟨A1, cap1, rfl, S1, b1, own1⟩
      have HR1 := Lib.hid (R.out.below b1)
      clear b1 CN own1 R xi
      cases ht : taut (row c) with
      | true =>
        have HC2 := Lib.hid (show cls (f.take (i + 1)) = cls (f.take i) by rw [HTK.out]; exact cls_no ht)
        rw [nrm_yes ht]
        clear ht HTK S1
        go_wp2_with fail
        go_roundw
        case rel => exact ⟨i + 1, A2, c2, τ', by omega, by go_num, by rw [HC2.out], by rw [HC2.out]; exact HR1.out⟩
        case measure => simp [intOf]; omega
      | false =>
        have HC2 := Lib.hid (show cls (f.take (i + 1)) = cls (f.take i) ++ [row c] by rw [HTK.out]; exact cls_yes ht)
        rw [nrm_no ht] at S1 ⊢
        have S1 := Lib.hid S1
        obtain ⟨rc, hrc⟩ : ∃ rc, row c = rc := ⟨_, rfl⟩
        rw [hrc] at S1 HC2 HRO hrl ⊢
        clear ht HTK hrc
        have M0 : Hid (HasB (w1.alloc (.cells #[.int .u32 0, .int .u32 0] 147)) w1.heap.size 147 #[.int .u32 (bp (rc.take 0) : Int), .int .u32 (bt (rc.take 0) : Int)] ∧ Below w1.heap.size w1 (w1.alloc (.cells #[.int .u32 0, .int .u32 0] 147))) := ⟨new_heap w1 _, below_alloc w1 _⟩
        go_wp2_with fail
        go_loopw [25] (fun jv wr2 => ∃ j : Nat, j ≤ rc.length ∧ jv = .int .i64 j ∧ Hid (HasB wr2 w1.heap.size 147 #[.int .u32 (bp (rc.take j) : Int), .int .u32 (bt (rc.take j) : Int)] ∧ Below w1.heap.size w1 wr2)) (fun jv _ => rc.length - (intOf jv).toNat)
        case atStart => exact ⟨0, Nat.zero_le _, rfl, M0⟩
        case round =>
          obtain ⟨j, hj, rfl, M⟩ := hrel
          clear M0
          by_cases hjl : j < rc.length
          · obtain ⟨x, hx⟩ : ∃ x, rc[j]? = some x := ⟨_, List.getElem?_eq_getElem hjl⟩
            obtain ⟨a1, rfl, hca⟩ := S1.out.get j x hx
            have hz1 : a1.block < w1.heap.size := by have := lt_of_cell hca; rwa [add_block] at this
            have xj := (M.out.2.cell (p := a1.add j) (by rw [add_block]; exact hz1)).trans hca
            have hok := HRO.out x (List.mem_of_getElem? hx)
            have x0 := M.out.1.cell 0
            have x1 := M.out.1.cell 1
            have f0 := M.out.1.free 0
            have f1 := M.out.1.free 1
            have z8 := lt_of_heap M.out.1
            have HTJ := Lib.hid (taken_snoc hx)
            have q3 : (0 : Int) ≤ (j : Int) := by omega
            have q4 : (j : Int) < (rc.length : Int) := by omega
            have HPB := Lib.hid (And.intro (bp_lt hn (rc.take j) (fun y hy => HRO.out y (List.mem_of_mem_take hy))) (bt_lt hn (rc.take j) (fun y hy => HRO.out y (List.mem_of_mem_take hy))))
            have HX := Lib.hid hok
            clear hx hca
            obtain ⟨P, hP⟩ : ∃ P, bp (rc.take j) = P := ⟨_, rfl⟩
            obtain ⟨T, hT⟩ : ∃ T, bt (rc.take j) = T := ⟨_, rfl⟩
            have HPT := Lib.hid (And.intro hP hT)
            rw [hP] at x0 HPB
            rw [hT] at x1 HPB
            clear hP hT hok
            by_cases hpos : 0 < x
            · obtain ⟨k, hk⟩ : ∃ k : Nat, x - 1 = (k : Int) := ⟨(x - 1).toNat, by omega⟩
              have hw1 : wrap64 (x - 1) = (k : Int) := by rw [hk]; exact w64_small _ (by omega) (by have := HX.out; unfold LOk at this; omega)
              have hw2 : IntKind.i64.wrap (x - 1) = (k : Int) := by rw [hk, IntKind.wrap_i64]; have := HX.out; unfold LOk at this; omega
              have q5 : (0 : Int) ≤ (k : Int) := by omega
              have HKX := Lib.hid hk
              clear hk
              go_wp2_with fail
              go_region
              have hk24 : k < 24 := by have h1 := HX.out; have h2 := HKX.out; unfold LOk at h1; omega
              rw [or_bit HPB.out.1 hk24]
              have HN : Hid (HasB (wr.setCell ⟨w1.heap.size, 0, none⟩ (.int .u32 ((P ||| 2 ^ k : Nat) : Int))).drew w1.heap.size 147 #[.int .u32 (bp (rc.take (j + 1)) : Int), .int .u32 (bt (rc.take (j + 1)) : Int)] ∧ Below w1.heap.size w1 (wr.setCell ⟨w1.heap.size, 0, none⟩ (.int .u32 ((P ||| 2 ^ k : Nat) : Int))).drew) := by
                rw [HTJ.out, bp_snoc, bt_snoc, if_pos hpos, if_pos hpos, show (x - 1).toNat = k by rw [HKX.out]; rfl, HPT.out.1]
                exact ⟨M.out.1.put 0 _, Below.draws (M.out.2.setCell (Nat.le_refl _) _) 1⟩
              clear M x0 x1 f0 f1
              go_wp2_with fail
              go_roundw
              case rel => exact ⟨j + 1, by omega, by go_num, HN⟩
              case measure => simp [intOf]; omega
            · obtain ⟨k, hk⟩ : ∃ k : Nat, -x - 1 = (k : Int) := ⟨(-x - 1).toNat, by have := HX.out; unfold LOk at this; omega⟩
              have hw1 : wrap64 (wrap64 (-x) - 1) = (k : Int) := by
                have h1 : wrap64 (-x) = -x := w64_small _ (by omega) (by have := HX.out; unfold LOk at this; omega)
                rw [h1, hk]; exact w64_small _ (by omega) (by have := HX.out; unfold LOk at this; omega)
              have hw2 : IntKind.i64.wrap (IntKind.i64.wrap (-x) - 1) = (k : Int) := by
                have h1 : IntKind.i64.wrap (-x) = -x := by rw [IntKind.wrap_i64]; have := HX.out; unfold LOk at this; omega
                rw [h1, hk, IntKind.wrap_i64]; have := HX.out; unfold LOk at this; omega
              have q5 : (0 : Int) ≤ (k : Int) := by omega
              have HKX := Lib.hid hk
              clear hk
              go_wp2_with fail
              go_region
              have hk24 : k < 24 := by have h1 := HX.out; have h2 := HKX.out; unfold LOk at h1; omega
              rw [or_bit HPB.out.2 hk24]
              have HN : Hid (HasB (wr.setCell ⟨w1.heap.size, 1, none⟩ (.int .u32 ((T ||| 2 ^ k : Nat) : Int))).drew w1.heap.size 147 #[.int .u32 (bp (rc.take (j + 1)) : Int), .int .u32 (bt (rc.take (j + 1)) : Int)] ∧ Below w1.heap.size w1 (wr.setCell ⟨w1.heap.size, 1, none⟩ (.int .u32 ((T ||| 2 ^ k : Nat) : Int))).drew) := by
                rw [HTJ.out, bp_snoc, bt_snoc, if_neg (by omega), if_neg (by omega), show (-x - 1).toNat = k by rw [HKX.out]; rfl, HPT.out.2]
                exact ⟨M.out.1.put 1 _, Below.draws (M.out.2.setCell (Nat.le_refl _) _) 1⟩
              clear M x0 x1 f0 f1
              go_wp2_with fail
              go_roundw
              case rel => exact ⟨j + 1, by omega, by go_num, HN⟩
              case measure => simp [intOf]; omega
          · obtain rfl : j = rc.length := by omega
            rw [List.take_length] at M
            have x0 := M.out.1.cell 0
            have x1 := M.out.1.cell 1
            have z8 := lt_of_heap M.out.1
            have MR := Lib.hid (HR1.out.below M.out.2)
            have hcl : (cls (f.take i)).length ≤ 100000 := by
              have h1 : (cls (f.take i)).length ≤ (f.take i).length := by
                unfold cls; exact Nat.le_trans (List.length_filter_le _ _) (Nat.le_of_eq (List.length_map _))
              rw [List.length_take] at h1; omega
            generalize cls (f.take i) = l2 at *
            go_wp2_with (at_builtin; refine wpList_append_lies _ rfl _ _ _ rfl 0 147 i0 _ 2 8 Tryz.underlying72 HI.out.1 HI.out.2.1 HI.out.2.2.1 HI.out.2.2.2 rfl (by omega) (.slice A2 l2.length c2) l2.length (mkCells l2) rfl (MR.out.R.1.alloc _) ⟨wr.heap.size, 0, none⟩ 1 1 [.int .u32 (bp rc : Int), .int .u32 (bt rc : Int)] rfl rfl (World.news_of_block (cs := #[.int .u32 (bp rc : Int), .int .u32 (bt rc : Int)]) (t := 147) (fr := (0, 0)) (new_heap wr _)) (by simp [Value.oneCell']) (by omega) (by unfold maxLen; omega) (by omega) (Nat.zero_le _) (wr.heap.size + 1) (by simp) ?_; intro g1 c1 wp hown1 hg1 hat1 hlt1; have HG := Lib.hid (MR.out.R.fin2 _ _ wp c1 g1 hg1 hown1 (by simpa using hat1)); clear hown1 hg1 hat1 hlt1)
            go_roundw
            case rel => exact ⟨i + 1, some ⟨g1, 0, none⟩, c1, _, by omega, by go_num, by rw [HC2.out]; simp, by rw [HC2.out]; exact ⟨by have := HG.out.1; rw [List.length_append]; unfold mkCells at this ⊢; rw [List.flatMap_append]; simpa using this, MR.out.T.trans HG.out.2⟩⟩
            case measure => simp [intOf]; omega
    · obtain rfl : i = f.length := by omega
      rw [List.take_length] at R ⊢
      have HE : Hid (MoPost f w (.returned (.slice A2 (cls f).length c2)) wr) := ⟨τ', A2, c2, rfl, R.out.R, R.out.T⟩
      go_wp2_with fail
      go_ret
      exact HE.out
end
end Go.Proofs.YtpmdnbdmocdngaaGreat

namespace Go.Proofs.YtpmdnbdmocdngaaGreat
open Go.ChangeShapes Go.WideShapes Go.ChangeAt Go.RowKit
set_option linter.unusedVariables false
set_option linter.unusedSimpArgs false

/-- How many rows of truths there are under which a formula holds. -/
def many (n : Nat) (f : List (List Int)) : Nat := ((allB n).filter (evalM · f)).length
theorem many_sols (n : Nat) (f : List (List Int)) : (sols n f (List.replicate n 0)).length = many n f := by rw [sols_zeros]; rfl
theorem many_le (n : Nat) (f : List (List Int)) : many n f ≤ 2 ^ n := by
  unfold many
  refine Nat.le_trans (List.length_filter_le _ _) ?_
  unfold allB
  rw [List.length_map, List.length_range]; exact Nat.le_refl _
theorem zeros_tv (n : Nat) : TV n (List.replicate n (0 : Int)) := ⟨List.length_replicate, fun i x hx => by
  rw [List.getElem?_replicate] at hx
  split at hx
  · injection hx with hx; exact .inr (.inl hx.symm)
  · cases hx⟩
theorem many_24 {n : Nat} (hn : n ≤ 24) (f : List (List Int)) : many n f ≤ 16777216 := by
  have h1 := many_le n f
  have h2 : 2 ^ n ≤ 2 ^ 24 := Nat.pow_le_pow_right (by decide) hn
  have e : (2 : Nat) ^ 24 = 16777216 := by decide
  omega
def CtPost (n : Nat) (f : List (List Int)) (M : Int) (w : World) (e : Ending) (w' : World) : Prop := e = .returned (.tuple #[.int .i64 (min M (many n f)), .int .i64 0]) ∧ Below w.heap.size w w'
section
variable {n : Nat} {w : World} {A : Option Addr} {f : List (List Int)} {fcap : Nat}
set_option maxHeartbeats 3200000 in
set_option maxRecDepth 4000 in
theorem ccount_any (M : Int) (hf : FormAt w A f) (hm : mayM (n : Int) f = true) (hn : n ≤ 24) (hfl : f.length ≤ 100000) (hcl : ∀ c ∈ f, c.length ≤ 100000) (hM : 0 ≤ M) (hM2 : M ≤ 9223372036854775807) :
    Calls Tryz.prog 14 #[.int .i64 (n : Int), .slice A f.length fcap, .int .i64 M] w (CtPost n f M w) := by
  have cm := may_any (n : Int) A f fcap w (by unfold Wf; omega) hf (by omega)
  rw [hm] at cm
  have okf := (may_ok hm hf.wf).2.2 n rfl
  have hno : ¬ M < 0 := by omega
  have hn2 : ¬ (24 : Int) < (n : Int) := by omega
  have HF := Lib.hid hf
  have HOK := Lib.hid okf
  have HCL := Lib.hid hcl
  have CM := Lib.hid (fun (W : World) (b : Below w.heap.size w W) => masks_any (fcap := fcap) (hf.keep b) okf hn hfl hcl)
  have HK24 := Lib.hid (many_24 hn f)
  have hcs : (cls f).length ≤ 100000 := by
    have h1 : (cls f).length ≤ f.length := by
      unfold cls; exact Nat.le_trans (List.length_filter_le _ _) (Nat.le_of_eq (List.length_map _))
    omega
  have HCS := Lib.hid hcs
  clear hf okf hcl hm hcs
  go_enter Tryz.func14, Tryz.ntmps14
  go_upto_region 3 with (go_at_call 28; ((with_reducible refine cm.mono ?_); rintro e w' ⟨rfl, rfl⟩))
  iterate 10 go_step
  refine wpList_plain rfl (fun K hK => wp_store_row 75 _ _ rfl w.heap.size #[.int .i64 0, .int .i64 M, .slice none 0 0, .slice none 0 0, .slice none 0 0, .slice none 0 0, .slice none 0 0, .slice none 0 0, .slice none 0 0, .slice none 0 0, .slice none 0 0, .slice none 0 0, .slice none 0 0, .slice none 0 0, .slice none 0 0, .slice none 0 0, .slice none 0 0, .slice none 0 0, .slice none 0 0, .slice none 0 0, .slice none 0 0, .slice none 0 0, .slice none 0 0, .slice none 0 0, .slice none 0 0, .slice none 0 0] rfl rfl _ _ (heap_alloc_last w _) (by kernel_rfl) rfl (by simp [Value.oneCell']) (hK _ _ ?_))
  rw [World.setRow_alloc_new]
  go_wp2_with fail
  (with_reducible refine (CM.out _ (below_alloc w _)).mono ?_)
  rintro e w2 ⟨τ', A2, c2, rfl, RN, ST⟩
  have hq0 : τ' w.heap.size = 0 := ST.tag _ (by simp)
  have hblk : w2.heap[w.heap.size]? = some (.cells (Value.int .i64 0 :: .int .i64 M :: List.replicate 24 (Value.slice none 0 0)).toArray 75 (0, 0)) := (ST.kept.block w.heap.size (by simp) (by decide)).trans (new_heap w _)
  have hlow : ∀ b, b < w.heap.size → τ' b = 0 := fun b hb => ST.tag b (by simp; omega)
  have b2 : Below w.heap.size w w2 := (below_alloc w _).trans ((ST.below (Nat.le_refl _) (fun _ _ => by decide)).mono (by simp))
  obtain ⟨τ0, hτ0⟩ : ∃ τ0 : Nat → Nat, τ0 = fun b => if b = w.heap.size then 9 else τ' b := ⟨_, rfl⟩
  have C0 : Ctr w.heap.size τ0 w2 w.heap.size 0 M (List.replicate 24 (Value.slice none 0 0)) := ⟨b2.size, fun b hb => by rw [hτ0]; show (if b = w.heap.size then 9 else τ' b) = 0; rw [if_neg (by omega)]; exact hlow b hb, ⟨hblk, by rw [hτ0]; exact if_pos rfl⟩, by simp, fun i v hv => by
    have : v = .slice none 0 0 := by
      rw [List.getElem?_replicate] at hv
      split at hv
      · injection hv with hv; exact hv.symm
      · cases hv
    subst this
    exact ⟨0, [], World.ownsRow_nil w2 0 _ 2, fun g hg => by cases hg⟩⟩
  have M0 : MskAt τ0 w2 8 A2 (rests f (List.replicate n 0)) := by
    rw [rests_zeros]
    intro i c hc
    obtain ⟨g, a, b, x, y, z⟩ := MskAt.row RN i c hc
    exact ⟨g, a, by rw [hτ0]; show (if g = w.heap.size then 9 else τ' g) = 8; rw [if_neg (fun e => by rw [e, hq0] at b; cases b)]; exact b, x, y, z⟩
  have CC := Lib.hid (by
    have := count_any (B := w.heap.size) (q := w.heap.size) (M := M) HOK.out hn hM2 hfl n τ0 w2 _ 0 8 A2 (List.replicate n 0) c2 C0 M0 (by decide) (by omega) (zeros_tv n) (by simp) (Int.le_refl _) hM (by rw [many_sols]; have := HK24.out; omega) (by rw [rests_zeros]; exact HCS.out)
    rw [rests_zeros, many_sols] at this
    exact this)
  have B2 := Lib.hid b2
  have HLOW := Lib.hid (show ∀ b, b < w.heap.size → τ0 b = 0 from C0.low)
  clear RN ST hq0 hblk hlow b2 hτ0 C0 M0 CM
  go_wp2_with fail
  (with_reducible refine CC.out.mono ?_)
  rintro e w3 ⟨rfl, τ3, vs3, C3, K3⟩
  obtain ⟨x0, _, _⟩ := C3.cells
  have zq := C3.blk.lt
  have B3 := Lib.hid (B2.out.trans (K3.below B2.out.size (fun b hb h => by rw [HLOW.out b hb] at h; omega)))
  rw [Int.zero_add] at x0
  have HE : Hid (CtPost n f M w (.returned (.tuple #[.int .i64 (min M (many n f)), .int .i64 0])) w3) := ⟨rfl, B3.out⟩
  clear C3 K3 CC
  go_wp2_with fail
  go_ret2
  exact HE.out
/-- Refused. -/
theorem ccount_no (k M : Int) (hk : Wf k) (hf : FormAt w A f) (hfl : f.length ≤ 9223372036854775807) (h : M < 0 ∨ 24 < k ∨ mayM k f = false) :
    Calls Tryz.prog 14 #[.int .i64 k, .slice A f.length fcap, .int .i64 M] w fun e w' => e = .returned (.tuple #[.int .i64 0, .int .i64 1]) ∧ w = w' := by
  have cm := may_any k A f fcap w hk hf hfl
  by_cases hb : M < 0
  · clear hf h cm
    go_enter Tryz.func14, Tryz.ntmps14
    go_wp2_with fail
    go_ret2
    exact ⟨rfl, rfl⟩
  · by_cases hk2 : 24 < k
    · clear hf h cm
      go_enter Tryz.func14, Tryz.ntmps14
      go_wp2_with fail
      go_ret2
      exact ⟨rfl, rfl⟩
    · rw [(h.resolve_left hb).resolve_left hk2] at cm
      clear hf h
      go_enter Tryz.func14, Tryz.ntmps14
      go_wp2_with (go_at_call 28; ((with_reducible refine cm.mono ?_); rintro e w' ⟨rfl, rfl⟩))
      go_ret2
      exact ⟨rfl, rfl⟩
end
end Go.Proofs.YtpmdnbdmocdngaaGreat

namespace Go.Proofs.YtpmdnbdmocdngaaGreat
open Go.ChangeShapes Go.WideShapes Go.ChangeAt Go.RowKit
set_option linter.unusedVariables false
set_option linter.unusedSimpArgs false

/-- Enough decisions. -/
theorem grant_max {n : Nat} {b : Int} (h : 0 < b / 2 ^ (min (n : Int) 40).toNat) : grant n b = 9223372036854775807 := by unfold grant; rw [if_pos h]
theorem many_zero {n : Nat} {f : List (List Int)} : many n f = 0 ↔ ∀ m : List Bool, m.length = n → evalM m f = false := by
  unfold many
  rw [List.length_eq_zero_iff, List.filter_eq_nil_iff]
  constructor
  · intro h m hm
    have := h m (mem_allB.2 hm)
    simpa using this
  · intro h m hm
    rw [h m (mem_allB.1 hm)]; decide
theorem many_pos {n : Nat} {f : List (List Int)} {m : List Bool} (hm : m.length = n) (he : evalM m f = true) : 0 < many n f := by
  rcases Nat.eq_zero_or_pos (many n f) with h | h
  · rw [many_zero.1 h m hm] at he; cases he
  · exact h
/-- What Solve answers where it may decide as often as it takes. -/
def SfPost (n : Nat) (f : List (List Int)) (w : World) (e : Ending) (w' : World) : Prop := Below w.heap.size w w' ∧
  ((∃ (m : List Bool) (g : Nat), e = .returned (.tuple #[.int .i64 1, .slice (some ⟨g, 0, none⟩) n n, .int .i64 0]) ∧ w.heap.size ≤ g ∧ HasB w' g 4 (m.map Value.bool).toArray ∧ m.length = n ∧ evalM m f = true) ∨
   (e = .returned (.tuple #[.int .i64 2, .slice none 0 0, .int .i64 0]) ∧ many n f = 0))
theorem SvPost.full {n : Nat} {f : List (List Int)} {b : Int} {w : World} {e : Ending} {w' : World} (h : SvPost n f b w e w') (hg : grant n b = 9223372036854775807) : SfPost n f w e w' := by
  obtain ⟨a, h | ⟨h1, h2⟩ | ⟨_, h2, _⟩⟩ := h
  · exact ⟨a, .inl h⟩
  · exact ⟨a, .inr ⟨h1, many_zero.2 h2⟩⟩
  · exact absurd hg h2
/-- Formulas that a law lays itself. -/
def litOk (f : List (List Int)) : Bool := decide (f.length ≤ 100) && f.all fun c => decide (c.length ≤ 100) && c.all fun x => decide (-9223372036854775808 ≤ x ∧ x ≤ 9223372036854775807)
theorem lit_form {f : List (List Int)} (h : litOk f = true) (w : World) : FormAt ((lay w f).alloc (.cells (rv w.heap.size f).toArray 36)) (some ⟨w.heap.size + f.length, 0, none⟩) f ∧ f.length ≤ 100 ∧ (∀ c ∈ f, c.length ≤ 100000) ∧ Below w.heap.size w ((lay w f).alloc (.cells (rv w.heap.size f).toArray 36)) := by
  unfold litOk at h
  simp only [Bool.and_eq_true, decide_eq_true_eq, List.all_eq_true] at h
  obtain ⟨h3, h4⟩ := h
  obtain ⟨b1, e1, r1⟩ := lay_ok f w (fun c hc => by have := (h4 c hc).1; omega)
  exact ⟨rows_form 36 e1 r1 (fun c hc l hl => (h4 c hc).2 l hl), h3, fun c hc => by have := (h4 c hc).1; omega, Below.plus b1 _⟩
theorem solve_lit (w : World) (n : Nat) (f : List (List Int)) (b : Int) (h : litOk f = true) (hm : mayM (n : Int) f = true) (hn : n ≤ 10) (hb : 0 ≤ b) (hb2 : b ≤ 9223372036854775807) (hg : 0 < b / 2 ^ (min (n : Int) 40).toNat) :
    Calls Tryz.prog 10 #[.int .i64 (n : Int), .slice (some ⟨w.heap.size + f.length, 0, none⟩) f.length f.length, .int .i64 b] ((lay w f).alloc (.cells (rv w.heap.size f).toArray 36)) (SfPost n f w) := by
  obtain ⟨h1, h2, h3, h4⟩ := lit_form h w
  refine (solve_any (fcap := f.length) b h1 hm (by omega) (Nat.le_refl _) (by omega) h3 hb hb2 (start_ok_ten hn (by omega))).mono fun e w' k => ?_
  obtain ⟨k1, k2⟩ := k.full (grant_max hg)
  refine ⟨Below.on h4 k1, ?_⟩
  rcases k2 with ⟨m, g, a, c, d⟩ | k2
  · exact .inl ⟨m, g, a, Nat.le_trans h4.size c, d⟩
  · exact .inr k2
theorem count_lit (w : World) (n : Nat) (f : List (List Int)) (M : Int) (h : litOk f = true) (hm : mayM (n : Int) f = true) (hn : n ≤ 24) (hM : 0 ≤ M) (hM2 : M ≤ 9223372036854775807) :
    Calls Tryz.prog 14 #[.int .i64 (n : Int), .slice (some ⟨w.heap.size + f.length, 0, none⟩) f.length f.length, .int .i64 M] ((lay w f).alloc (.cells (rv w.heap.size f).toArray 36)) (CtPost n f M w) := by
  obtain ⟨h1, h2, h3, h4⟩ := lit_form h w
  exact (ccount_any (fcap := f.length) M h1 hm hn (by omega) h3 hM hM2).mono fun e w' k => ⟨k.1, Below.on h4 k.2⟩
set_option maxHeartbeats 1600000 in
theorem awake6_any (w : World) : Calls Tryz.prog 8 #[] w fun e w' => e = .returned (.bool true) ∧ Below w.heap.size w w' := by
  have C1 := Lib.hid (fun W => show Calls Tryz.prog 10 #[.int .i64 2, _, _] _ _ from solve_lit W 2 [[1, 2], [-1], [-2]] 1000 (by decide) (by decide) (by decide) (by decide) (by decide) (by decide))
  have C2 := Lib.hid (fun W => show Calls Tryz.prog 10 #[.int .i64 2, _, _] _ _ from solve_lit W 2 [[1, 2], [-1]] 1000 (by decide) (by decide) (by decide) (by decide) (by decide) (by decide))
  have C3 := Lib.hid (fun W => show Calls Tryz.prog 14 #[.int .i64 2, _, _] _ _ from count_lit W 2 [[1, 2]] 9 (by decide) (by decide) (by decide) (by decide) (by decide))
  have H1 : Hid (∀ m : List Bool, m.length = 2 → evalM m [[1, 2], [-1], [-2]] = true → False) := fun m hm he => by
    match m, hm with
    | [a, b], _ => revert he; revert a b; decide
  have H2 : Hid (∀ m : List Bool, m.length = 2 → evalM m [[1, 2], [-1]] = true → m = [false, true]) := fun m hm he => by
    match m, hm with
    | [a, b], _ => revert he; revert a b; decide
  have H3 := Lib.hid (show many 2 [[1, 2], [-1]] ≠ 0 by decide +kernel)
  have H4 := Lib.hid (show min (9 : Int) (many 2 [[1, 2]]) = 3 by decide +kernel)
  go_enter Tryz.func8, Tryz.ntmps8
  go_wp2_with fail
  (refine (C1.out _).mono ?_)
  rintro e w1 ⟨b1, ⟨m, g, _, _, _, hm, he⟩ | ⟨rfl, _⟩⟩
  · exact absurd he (fun h => H1.out m hm h)
  have B1 := Lib.hid b1
  clear b1 C1
  go_wp2_with fail
  (refine (C2.out _).mono ?_)
  rintro e w2 ⟨b2, h⟩
  rcases h.symm with ⟨_, h0⟩ | ⟨m, g, rfl, hgw, hb, hm, he⟩
  · exact absurd h0 H3.out
  obtain rfl := H2.out m hm he
  have B2 := Lib.hid (Below.on B1.out b2)
  have HB := Lib.hid hb
  have hgl := lt_of_heap hb
  clear b2 C2 hb he hm
  go_wp2_with fail
  (refine (C3.out _).mono ?_)
  rintro e w3 ⟨rfl, b3⟩
  have B3 := Lib.hid (Below.on B2.out b3)
  have hb3 : HasB w3 g 4 #[.bool false, .bool true] := (b3.block g hgl).trans HB.out
  have x0 := hb3.cell 0
  have x1 := hb3.cell 1
  have z3 := lt_of_heap hb3
  rw [H4.out]
  clear b3 C3 hb3
  go_wp2_with fail
  go_ret
  exact ⟨rfl, B3.out⟩
end Go.Proofs.YtpmdnbdmocdngaaGreat
