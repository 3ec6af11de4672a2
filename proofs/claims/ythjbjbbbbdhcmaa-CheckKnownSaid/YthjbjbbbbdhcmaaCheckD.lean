/-
  Run and Heights of package check: what they answer.
-/
import Derived.Test.YthjbjbbbbdhcmaaCheckGr
import Derived.Test.YthjbjbbbbdhcmaaCheckP
import Derived.Test.YthjbjbbbbdhcmaaCheckX
namespace Go.Proofs.Ythjbjbbbbdhcmaa
open Go.ChangeShapes Go.WideShapes Go.ChangeAt Go.RowKit Go.Joins
set_option linter.unusedVariables false

/-- An instruction fits just where its stack is well. -/
theorem fit_bad {L : List (Int × Int)} {r : Nat → Nat} (h : MasksOk L r) {n : Nat} {x : Int × Int} (hx : L[n]? = some x) (hok : okI x = true) : fitB (r n) (tkx x).toNat (gvx x).toNat = true ↔ ¬ Bad L n := by
  obtain ⟨⟨a1, a2⟩, a3, a4⟩ := tkg hok
  have hb : ∀ k, (bh (r n) (tkx x).toNat (gvx x).toNat).testBit k = true ↔ _ := fun k => bh_step (m := r n) (k := k) a1 a3
  unfold fitB
  constructor
  · intro hf ⟨y, k, hy, hr, hB⟩
    rw [hx] at hy
    injection hy with hy
    subst hy
    have hk := (h.2 n k).2 hr
    rw [Bool.or_eq_true, decide_eq_true_eq, Bool.and_eq_true, decide_eq_true_eq] at hf
    rcases hf with hf | ⟨hs, hf⟩
    · rw [hf, Nat.zero_testBit] at hk; cases hk
    · obtain ⟨b, hb1⟩ := bit_ex hf
      obtain ⟨k0, q1, q2, _⟩ := (hb b).1 hb1
      have e := single_bit hs hk k0 q1
      subst e
      rcases hB with hB | ⟨k', hne, hr'⟩
      · exact hB q2
      · exact hne (single_bit hs hk k' ((h.2 n k').2 hr'))
  · intro hnb
    rw [Bool.or_eq_true, decide_eq_true_eq, Bool.and_eq_true, decide_eq_true_eq]
    by_cases h0 : r n = 0
    · exact .inl h0
    refine .inr ?_
    obtain ⟨k, hk⟩ := bit_ex h0
    have hr := (h.2 n k).1 hk
    cases hs : single (r n) with
    | false =>
      obtain ⟨j, hj, hj2⟩ := not_single (h.1 n) hs hk
      exact absurd ⟨x, k, hx, hr, .inr ⟨j, hj, (h.2 n j).1 hj2⟩⟩ hnb
    | true =>
      refine ⟨rfl, fun e => ?_⟩
      by_cases hst : stepOk x k
      · have := (hb (toH x k)).2 ⟨k, hk, hst, rfl⟩
        rw [e, Nat.zero_testBit] at this
        cases this
      · exact hnb ⟨x, k, hx, hr, .inl hst⟩
/-- The heights told: the highest of each, -1 where there is none. -/
def hiB (m : Nat) : Int := wrap64 ((Lib.bitLen m : Nat) - 1)
theorem hiB_zero : hiB 0 = -1 := by unfold hiB; rw [bitLen_zero]; decide +kernel
theorem hiB_pow : ∀ k : Fin 17, hiB (2 ^ k.val) = (k.val : Int) := by
  intro k
  unfold hiB
  rw [bitLen_pow k]
  have : (((k.val + 1 : Nat) : Int) - 1) = (k.val : Int) := by omega
  rw [this]
  exact i64_wrap_in _ (by omega) (by omega)
theorem hts_of {L : List (Int × Int)} {r : Nat → Nat} (h : MasksOk L r) (hok : ∀ (i : Nat) (x : Int × Int), L[i]? = some x → okI x = true) (hb : ∀ i, ¬ Bad L i) : Hts L ((List.range L.length).map fun i => hiB (r i)) := by
  refine ⟨by simp, fun i hi => ?_⟩
  have e : ((List.range L.length).map fun i => hiB (r i))[i]? = some (hiB (r i)) := by rw [List.getElem?_map, List.getElem?_range hi]; rfl
  obtain ⟨x, hx⟩ : ∃ x, L[i]? = some x := ⟨_, List.getElem?_eq_getElem hi⟩
  have hf := (fit_bad h hx (hok i x hx)).2 (hb i)
  rw [e]
  by_cases h0 : r i = 0
  · refine .inr ⟨fun k hr => ?_, by rw [h0, hiB_zero]⟩
    have := (h.2 i k).2 hr
    rw [h0, Nat.zero_testBit] at this
    cases this
  · unfold fitB at hf
    rw [Bool.or_eq_true, decide_eq_true_eq, Bool.and_eq_true] at hf
    rcases hf with hf | ⟨hs, _⟩
    · exact absurd hf h0
    obtain ⟨k, hk, he⟩ := of_decide_eq_true hs
    refine .inl ⟨k, (h.2 i k).1 (by rw [he, pow_bit]; simp), ?_⟩
    rw [he]
    exact congrArg some (hiB_pow ⟨k, hk⟩)
/-- What look answers. -/
abbrev LkPost (L : List (Int × Int)) (N : List ByteArray) (W : World) (e : Ending) (W' : World) : Prop :=
  ∃ (v : Value) (k f : Int), e = .returned (.tuple #[v, .int .i64 k, .int .i64 f]) ∧ ((f ≠ 0 ∧ Is L N k f []) ∨ (k = 0 ∧ f = 0 ∧ Sized L N ∧ Named N ∧ Single L N ∧ (∀ i, ¬ Bad L i) ∧ ∃ rb r, v = .slice (some ⟨rb, 0, none⟩) L.length L.length ∧ MsAt W' rb L.length r ∧ MasksOk L r)) ∧ Gw W W'
set_option maxRecDepth 100000 in
set_option maxHeartbeats 4000000 in
theorem look_any {W : World} {A B : Option Addr} {L : List (Int × Int)} {N : List ByteArray} {ca cb : Nat} (h : POk W A L ca B N cb) :
    Calls Try.prog 16 #[.agg #[.slice A L.length ca, .slice B N.length cb]] W (LkPost L N W) := by
  have HK := Lib.hid (h.alloc (.cells #[.slice A L.length ca, .slice B N.length cb] 25))
  have HG := Lib.hid (Gw.alloc W (.cells #[.slice A L.length ca, .slice B N.length cb] 25))
  obtain ⟨c0, c1, f0, f1⟩ := two_cells (heap_alloc_new W (.cells #[.slice A L.length ca, .slice B N.length cb] 25))
  clear h
  have hn : ∀ b w, (Op.unary .not (.bool b)).run Try.prog w = .ok (.bool (!b)) w := fun _ _ => rfl
  have SH := shape_any HK.out
  go_enter Try.func16, Try.ntmps16
  go_upto_region 2 with (go_at_call 22; with_reducible refine SH.mono ?_; rintro e w1 ⟨kk, ff, rfl, hsh, G1⟩)
  have e0 := G1.cell c0
  have e1 := G1.cell c1
  have HK1 := Lib.hid (HK.out.gw G1)
  have HG1 := Lib.hid (HG.out.trans G1)
  clear SH HK HG G1 c0 c1 f0 f1
  rcases hsh with ⟨hff, hI⟩ | ⟨rfl, rfl, S1, S2, S3⟩
  · have HI := Lib.hid hI
    have HFF := Lib.hid hff
    have k1 : (ff == 0) = false := by simp [hff]
    have k2 : (ff != 0) = true := by simp [hff]
    clear hI hff
    go_wp2
    go_ret3
    exact ⟨_, _, _, rfl, .inl ⟨HFF.out, HI.out⟩, HG1.out⟩
  · have hl1 := S1.l1
    have hl2 := S1.l2
    have HS1 := Lib.hid S1
    have HS2 := Lib.hid S2
    have HS3 := Lib.hid S3
    have HOK : Hid (∀ (i : Nat) (x : Int × Int), L[i]? = some x → okI x = true) := fun i x hx => (fault_zero (S3 i x hx)).1
    clear S1 S2 S3
    have ST := steps_any hl2 HK1.out.la HK1.out.ma HK1.out.inst HOK.out
    go_upto_region 5 with (go_at_call 23; with_reducible refine ST.mono ?_; rintro e w2 ⟨g, rfl, SA, hg2, G2⟩)
    have RO := round_any (m := N.length) hl1 hl2 SA HS3.out
    have HSA := Lib.hid SA
    clear ST SA
    go_upto_region 6 with (go_at_call 24; with_reducible refine RO.mono ?_; rintro e w3 ⟨rb, r, rfl, HMK, HM, hrb, G3⟩)
    have HSA3 := Lib.hid (HSA.out.on G3)
    have HM3 := Lib.hid HM
    have HG3 := Lib.hid (HG1.out.trans (G2.trans G3))
    clear RO HM HSA G2 G3 e0 e1 HK1 HG1
    go_wp2
    go_loopw [27] (fun i wr => ∃ k : Nat, k ≤ L.length ∧ i = .int .i64 k ∧ Hid (∀ j, j < k → ¬ Bad L j) ∧ Hid (Gw w3 wr)) (fun i _ => L.length - (intOf i).toNat)
    case atStart => exact ⟨0, by omega, rfl, fun j hj => by omega, Gw.refl _⟩
    case round =>
      obtain ⟨k, hk, rfl, HNB, G⟩ := hrel
      by_cases hlt : k < L.length
      · obtain ⟨x, hx⟩ : ∃ x, L[k]? = some x := ⟨_, List.getElem?_eq_getElem hlt⟩
        obtain ⟨v, s0, s1, s2, s3⟩ := (HSA3.out.on G.out).at' k x hlt hx
        obtain ⟨A5, cap5, rfl, _⟩ := own_shape s3
        obtain ⟨⟨a1, a2⟩, a3, a4⟩ := tkg (HOK.out k x hx)
        have hfb := fit_bad HMK.out hx (HOK.out k x hx)
        have HX := Lib.hid hx
        rw [a1] at s0
        rw [a3] at s1
        clear s3 a1 a3 hx
        generalize (tkx x).toNat = t0 at *
        generalize (gvx x).toNat = g0 at *
        have cm := (HM3.out.on G.out).cell hlt
        have FI := fun w => fit_any (r k) t0 g0 (.slice A5 (nxt x k).length cap5) w (HMK.out.1 k) a2 a4
        have hkL : (k : Int) < L.length := by omega
        cases hf : fitB (r k) t0 g0 with
        | true =>
          have HB2 : Hid (∀ j, j < k + 1 → ¬ Bad L j) := fun j hj => by
            by_cases e : j = k
            · subst e; exact hfb.1 hf
            · exact HNB.out j (by omega)
          rw [hf] at FI
          clear hfb hf HNB
          go_wp2_with (go_at_call 25; with_reducible refine (FI _).mono ?_; rintro e w' ⟨rfl, G2⟩)
          go_roundw
          case rel => exact ⟨k + 1, by omega, by go_num, HB2.out, G.out.trans G2⟩
          case measure => simp [intOf]; omega
        | false =>
          have HI := Lib.hid (Is.stack HS1.out HS2.out HS3.out (Classical.byContradiction fun q => by rw [hfb.2 q] at hf; cases hf) HNB.out)
          rw [hf] at FI
          clear hfb hf HNB
          go_wp2_with (go_at_call 25; with_reducible refine (FI _).mono ?_; rintro e w' ⟨rfl, G2⟩)
          go_ret3
          exact ⟨_, _, _, rfl, .inl ⟨by decide, HI.out⟩, HG3.out.trans (G.out.trans G2)⟩
      · obtain rfl : k = L.length := by omega
        have HNB2 : Hid (∀ i, ¬ Bad L i) := fun i hB => by
          obtain ⟨x, hh, hx, _⟩ := id hB
          exact HNB.out i (List.getElem?_eq_some_iff.1 hx).1 hB
        have HM4 := Lib.hid (HM3.out.on G.out)
        clear HNB
        go_wp2
        go_ret3
        exact ⟨_, _, _, rfl, .inr ⟨rfl, rfl, HS1.out, HS2.out, HS3.out, HNB2.out, _, _, rfl, HM4.out, HMK.out⟩, HG3.out.trans G.out⟩
/-- RUN of what has landed. -/
theorem run_any : RunC := by
  intro W A B L N ca cb h
  have HK := h.alloc (.cells #[.slice A L.length ca, .slice B N.length cb] 25)
  have HG := Lib.hid (Gw.alloc W (.cells #[.slice A L.length ca, .slice B N.length cb] 25))
  obtain ⟨c0, c1, f0, f1⟩ := two_cells (heap_alloc_new W (.cells #[.slice A L.length ca, .slice B N.length cb] 25))
  have LK := look_any HK
  clear h HK
  go_enter Try.func10, Try.ntmps10
  go_wp2_with (go_at_call 16; with_reducible refine LK.mono ?_; rintro e w1 ⟨v, kk, ff, rfl, hlk, G1⟩)
  go_ret2
  rcases hlk with ⟨hff, hI⟩ | ⟨rfl, rfl, S1, S2, S3, S4, rb, r, rfl, S5, S6⟩
  · exact ⟨_, _, _, rfl, hI, HG.out.trans G1⟩
  · exact ⟨_, _, _, rfl, .well S1 S2 S3 S4 (hts_of S6 (fun i x hx => (fault_zero (S3 i x hx)).1) S4), HG.out.trans G1⟩
theorem nrow_of {W w : World} {hb n : Nat} {g : Nat → Int} (hh : Has w hb 3 (nums n g)) (hw : Gw W w) (hge : W.heap.size ≤ hb) (hn : n ≤ maxLen) : NRow W w (.slice (some ⟨hb, 0, none⟩) n n) ((List.range n).map g) := by
  have hl : ((List.range n).map g).length = n := by simp
  refine ⟨?_, hw⟩
  rw [hl]
  refine ⟨by simp [i64s], .inr ⟨hb, n, nums n g, rfl, hge, hh, Nat.le_refl _, hn, by rw [nums_size]; omega, ?_⟩⟩
  simp only [nums, i64s, List.map_map, Nat.mul_one]
  rw [List.take_of_length_le (by simp)]
  rfl
theorem nums_ext {n : Nat} {g g' : Nat → Int} (h : ∀ j, j < n → g j = g' j) : nums n g = nums n g' :=
  arr_ext (n := n) (nums_size _ _) (nums_size _ _) fun j hj => by rw [nums_get _ hj, nums_get _ hj, h j hj]
/-- The first k heights told. -/
def htk (r : Nat → Nat) (k : Nat) : Nat → Int := fun j => if j < k then hiB (r j) else 0
theorem htk_set (n : Nat) (r : Nat → Nat) (k : Nat) : nums n (setg (htk r k) k (hiB (r k))) = nums n (htk r (k + 1)) := nums_ext fun j _ => by
  unfold htk setg
  by_cases e : j = k
  · subst e; rw [if_pos rfl, if_pos (by omega)]
  · rw [if_neg e]
    show (if j < k then hiB (r j) else 0) = if j < k + 1 then hiB (r j) else 0
    by_cases h : j < k
    · rw [if_pos h, if_pos (by omega)]
    · rw [if_neg h, if_neg (by omega)]
set_option maxRecDepth 100000 in
set_option maxHeartbeats 4000000 in
/-- HEIGHTS of what has landed. -/
theorem heights_any : HtsC := by
  intro W A B L N ca cb h
  have HK := h.alloc (.cells #[.slice A L.length ca, .slice B N.length cb] 25)
  have HG := Lib.hid (Gw.alloc W (.cells #[.slice A L.length ca, .slice B N.length cb] 25))
  obtain ⟨c0, c1, f0, f1⟩ := two_cells (heap_alloc_new W (.cells #[.slice A L.length ca, .slice B N.length cb] 25))
  have LK := look_any HK
  clear h HK
  go_enter Try.func13, Try.ntmps13
  go_upto_region 2 with (go_at_call 16; with_reducible refine LK.mono ?_; rintro e w1 ⟨v, kk, ff, rfl, hlk, G1⟩)
  have HG1 := Lib.hid (HG.out.trans G1)
  clear LK HG G1 c0 c1 f0 f1
  rcases hlk with ⟨hff, hI⟩ | ⟨rfl, rfl, S1, S2, S3, S4, rb, r, rfl, S5, S6⟩
  · have HI := Lib.hid hI
    have k1 : (ff == 0) = false := by simp [hff]
    have k2 : (ff != 0) = true := by simp [hff]
    clear hI hff
    go_wp2
    go_ret
    exact ⟨_, _, _, _, rfl, HI.out, ⟨⟨rfl, .inl ⟨rfl, rfl⟩⟩, HG1.out⟩⟩
  · have hl1 := S1.l1
    have hl2 := S1.l2
    have HW := Lib.hid (Is.well S1 S2 S3 S4 (hts_of S6 (fun i x hx => (fault_zero (S3 i x hx)).1) S4))
    have HLT := Lib.hid S6.1
    clear S1 S2 S3 S4 S6
    have hmkI : ∀ w, (Instr.makeSlice 31 (.int .i64 (L.length : Int)) (.int .i64 (L.length : Int))).run Try.prog w = .ok (.slice (some ⟨w.heap.size, 0, none⟩) L.length L.length) (w.alloc (.cells (madeCells #[.int .i64 0] L.length) 3)) := fun w => run_make_row' (P := Try.prog) 31 3 (.int .i64 0) 8 Try.underlying31 (by kernel_rfl) rfl .i64 .i64 L.length (by omega) (by omega) w
    have HM5 := Lib.hid (S5.on (Gw.alloc w1 (.cells (madeCells #[.int .i64 0] L.length) 3)))
    have H5 : Hid (Has (w1.alloc (.cells (madeCells #[.int .i64 0] L.length) 3)) w1.heap.size 3 (nums L.length (htk r 0))) := by
      have := Has.new w1 3 (madeCells #[.int .i64 0] L.length)
      rw [made_nums] at this ⊢
      exact this
    have HG5 := Lib.hid (HG1.out.trans (Gw.alloc w1 (.cells (madeCells #[.int .i64 0] L.length) 3)))
    have hrl : Hid (rb ≠ w1.heap.size) := by have := Has.lt (w := w1) S5; show rb ≠ _; omega
    have hge : Hid (W.heap.size ≤ w1.heap.size) := HG1.out.size
    clear S5 HG1
    go_upto_region 5 with fail
    generalize w1.alloc (.cells (madeCells #[.int .i64 0] L.length) 3) = w2 at *
    generalize w1.heap.size = hb at *
    clear hmkI
    go_wp2
    go_loopw [22] (fun i wr => ∃ k : Nat, k ≤ L.length ∧ i = .int .i64 k ∧ Hid (Gw W wr) ∧ Hid (MsAt wr rb L.length r) ∧ Hid (Has wr hb 3 (nums L.length (htk r k)))) (fun i _ => L.length - (intOf i).toNat)
    case atStart => exact ⟨0, by omega, rfl, HG5.out, HM5.out, H5.out⟩
    case round =>
      obtain ⟨k, hk, rfl, G, M, H⟩ := hrel
      clear HG5 HM5 H5
      by_cases hlt : k < L.length
      · have cm := M.out.cell hlt
        have HI := fun w => highest_any (r k) w (HLT.out k)
        have hu : hiB (r k) = wrap64 ((Lib.bitLen (r k) : Nat) - 1) := rfl
        rw [← hu] at HI
        have HU := Lib.hid hu
        clear hu
        have hkL : (k : Int) < L.length := by omega
        have z0 := (H.out.cell k).trans (nums_get _ hlt)
        have y0 := H.out.free k
        have PUT : Hid (Has (wr.setCell ⟨hb, k, none⟩ (.int .i64 (hiB (r k)))) hb 3 (nums L.length (htk r (k + 1)))) := by
          have := H.out.put k (.int .i64 (hiB (r k)))
          rw [nums_set _ _ hlt, htk_set] at this
          exact this
        have PG : Hid (Gw W (wr.setCell ⟨hb, k, none⟩ (.int .i64 (hiB (r k))))) := (But.set _ _ _ _).gw G.out hge.out
        have PM : Hid (MsAt (wr.setCell ⟨hb, k, none⟩ (.int .i64 (hiB (r k)))) rb L.length r) := (But.set hb wr k (.int .i64 (hiB (r k)))).has hrl.out M.out
        generalize hiB (r k) = hv at *
        go_wp2_with (go_at_call 20; with_reducible refine (HI _).mono ?_; rintro e w' ⟨rfl, rfl⟩)
        go_roundw
        case rel => exact ⟨k + 1, by omega, by go_num, PG.out, PM.out, PUT.out⟩
        case measure => simp [intOf]; omega
      · obtain rfl : k = L.length := by omega
        have HR : Hid (NRow W wr (.slice (some ⟨hb, 0, none⟩) L.length L.length) ((List.range L.length).map fun i => hiB (r i))) := by
          have h1 : nums L.length (htk r L.length) = nums L.length fun i => hiB (r i) := nums_ext fun j hj => by unfold htk; rw [if_pos hj]
          have h2 := H.out
          rw [h1] at h2
          exact nrow_of h2 G.out hge.out (by unfold maxLen; omega)
        go_wp2
        go_ret
        exact ⟨_, _, _, _, rfl, HW.out, HR.out⟩
end Go.Proofs.Ythjbjbbbbdhcmaa
