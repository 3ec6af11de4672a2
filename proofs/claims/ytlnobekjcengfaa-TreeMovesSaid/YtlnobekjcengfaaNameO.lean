/-
  of of package names: a name as one value.
-/
import Derived.Test.YtlnobekjcengfaaNameU
namespace Go.Proofs.Ytlnobekjcengfaa
open Go.ChangeShapes Go.WideShapes Go.ChangeAt Go.RowKit Go.Joins
set_option linter.unusedVariables false

theorem bless (a b : List UInt8) : Op.bytesLess a b = decide (a < b) := by
  induction a generalizing b with
  | nil => cases b <;> simp [Op.bytesLess]
  | cons x a ih =>
    cases b with
    | nil => simp [Op.bytesLess]
    | cons y b =>
      simp only [Op.bytesLess, ih, List.cons_lt_cons_iff, Bool.decide_or, Bool.decide_and]
      by_cases h : x = y <;> simp [h]
theorem spl_of {s a b : ByteArray} {t : Bool} (h : CutAt s a b t) (hn : nameB s.data.toList = true) : spl s.data.toList = if t = true then (a.data.toList, b.data.toList) else ([], s.data.toList) := by
  cases h with
  | no h1 => simp [spl_one hn h1]
  | yes h1 h2 h3 =>
    rw [h1] at hn
    rw [h1, spl_two hn h2 h3]
    simp
theorem cut_self {s a b : ByteArray} (h : CutAt s a b false) : a = s := by cases h; rfl
theorem of_end {W w : World} {t : TypeId} {o : Obj} {u v x y : Value} (H : Has w W.heap.size t #[u, v]) (G : Gw (W.alloc o) w) :
    Has ((w.setCell ⟨W.heap.size, 0, none⟩ x).setCell ⟨W.heap.size, 1, none⟩ y) W.heap.size t #[x, y] ∧ Gw W ((w.setCell ⟨W.heap.size, 0, none⟩ x).setCell ⟨W.heap.size, 1, none⟩ y) :=
  ⟨(H.put 0 x).put 1 y, ((But.set _ _ 0 x).trans (But.set _ _ 1 y)).gw ((Gw.alloc W o).trans G) (Nat.le_refl _)⟩
abbrev nV (l : List UInt8) : Value := .agg #[.string (bs (spl l).1), .string (bs (spl l).2)]
set_option maxHeartbeats 2000000 in
theorem of_any (s : ByteArray) (W : World) (hs : s.size ≤ 140737488351232) : Calls Try.prog 44 #[.string s] W fun e W' => e = .returned (nV s.data.toList) ∧ Gw W W' := by
  have hn : ∀ b w, (Op.unary .not (.bool b)).run Try.prog w = .ok (.bool (!b)) w := fun _ _ => rfl
  unfold nV
  by_cases h8 : 8 < s.size
  · have hb : nameB s.data.toList = false := by
      have : ¬ s.data.toList.length ≤ 8 := by rw [Array.length_toList]; exact Nat.not_le.2 h8
      unfold nameB
      rw [decide_eq_false this]
      simp
    rw [spl_no hb]
    have h8' : (8 : Int) < s.size := by omega
    clear hb
    go_enter Try.func44, Try.ntmps44
    go_wp2
    refine bodyPost_ret (results_cell_row rfl _ _ W.heap.size _ _ _ _ rfl (heap_alloc_new W _) Try.underlying91 rfl (by kernel_rfl)) rfl ?_
    exact ⟨rfl, Gw.alloc _ _⟩
  · have h8' : decide ((8 : Int) < s.size) = false := decide_eq_false (by omega)
    have H8 := Lib.hid (show s.size ≤ 8 by omega)
    have CU := fun w => cut_any s w hs
    clear h8
    go_enter Try.func44, Try.ntmps44
    go_upto_region 4 with (go_at_call 46; with_reducible refine (CU _).mono ?_; rintro e w' ⟨a, b, t, rfl, hc, G1⟩)
    have HB := (Has.new W 91 #[.string ⟨#[]⟩, .string ⟨#[]⟩]).on G1
    obtain ⟨c1, f1⟩ := box1 HB
    obtain ⟨c0, f0⟩ := box0 HB
    have HN := Lib.hid (name_of hc H8.out)
    have HS := Lib.hid (spl_of hc)
    have ha : a.size ≤ 140737488351232 := Nat.le_trans (cut_size hc).1 hs
    have hb : b.size ≤ 140737488351232 := Nat.le_trans (cut_size hc).2 hs
    have PA := fun w => part_any a w ha
    have PB := fun w => part_any b w hb
    have hcs : Hid (t = false → a = s) := fun ht => cut_self (ht ▸ hc)
    clear hc
    cases hpa : partB a.data.toList with
    | false =>
      rw [hpa] at PA HN
      clear hpa
      have HX := Lib.hid (spl_no (show nameB s.data.toList = false by rw [HN.out]; rfl))
      go_wp2_with (go_at_call 47; with_reducible refine (PA _).mono ?_; rintro e w' ⟨rfl, rfl⟩)
      obtain ⟨e1, e2⟩ := of_end (x := .string ⟨#[]⟩) (y := .string ⟨#[]⟩) HB G1
      refine bodyPost_ret (results_cell_row rfl _ _ W.heap.size _ _ _ _ rfl e1 Try.underlying91 rfl (by kernel_rfl)) rfl ?_
      exact ⟨by rw [HX.out]; rfl, e2⟩
    | true =>
      rw [hpa] at PA HN
      clear hpa
      cases t with
      | false =>
        have HX := Lib.hid (HS.out (show nameB s.data.toList = true by rw [HN.out]; rfl))
        have ea := Lib.hid (hcs.out rfl)
        go_wp2_with (go_at_call 47; with_reducible refine (PA _).mono ?_; rintro e w' ⟨rfl, rfl⟩)
        obtain ⟨e1, e2⟩ := of_end (x := .string ⟨#[]⟩) (y := .string a) HB G1
        refine bodyPost_ret (results_cell_row rfl _ _ W.heap.size _ _ _ _ rfl e1 Try.underlying91 rfl (by kernel_rfl)) rfl ?_
        exact ⟨by rw [HX.out, ea.out]; simp [bs_self]; rfl, e2⟩
      | true =>
        cases hpb : partB b.data.toList with
        | false =>
          rw [hpb] at PB HN
          clear hpb
          have HX := Lib.hid (spl_no (show nameB s.data.toList = false by rw [HN.out]; rfl))
          go_wp2_with (go_at_call 47; first | (with_reducible refine (PA _).mono ?_; rintro e w' ⟨rfl, rfl⟩) | (with_reducible refine (PB _).mono ?_; rintro e w' ⟨rfl, rfl⟩))
          obtain ⟨e1, e2⟩ := of_end (x := .string ⟨#[]⟩) (y := .string ⟨#[]⟩) HB G1
          refine bodyPost_ret (results_cell_row rfl _ _ W.heap.size _ _ _ _ rfl e1 Try.underlying91 rfl (by kernel_rfl)) rfl ?_
          exact ⟨by rw [HX.out]; rfl, e2⟩
        | true =>
          rw [hpb] at PB HN
          clear hpb
          have HX := Lib.hid (HS.out (show nameB s.data.toList = true by rw [HN.out]; rfl))
          go_wp2_with (go_at_call 47; first | (with_reducible refine (PA _).mono ?_; rintro e w' ⟨rfl, rfl⟩) | (with_reducible refine (PB _).mono ?_; rintro e w' ⟨rfl, rfl⟩))
          obtain ⟨e1, e2⟩ := of_end (x := .string a) (y := .string b) HB G1
          refine bodyPost_ret (results_cell_row rfl _ _ W.heap.size _ _ _ _ rfl e1 Try.underlying91 rfl (by kernel_rfl)) rfl ?_
          exact ⟨by rw [HX.out]; simp [bs_self], e2⟩
end Go.Proofs.Ytlnobekjcengfaa
