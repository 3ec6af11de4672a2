/-
  again of package fix: a node once more, in another arena.
-/
import Derived.Test.YtgbmiphaabeodaaDoorTermU
import Derived.Test.YtgbmiphaabeodaaDoorFixG
import Derived.BigQuiet
import Derived.Deep.QuietTactic
import Derived.Deep.RegionHeld3
namespace Go.Proofs.YtgbmiphaabeodaaDoor
open Go.ChangeShapes Go.WideShapes Go.ChangeAt Go.RowKit
set_option linter.unusedVariables false
attribute [local go_sem ↓] Go.wp_at_zero Go.wp_at_succ

/-- A part's term in the other arena. -/
structure Pt (ns : List Nd) (g : Nat → Option Int) (t : Tr) (a : Int) : Prop where
  tr : tr ns a = t.sub g
  z : t = .o → a = 0
  t : t ≠ .o → isT ns a
/-- Vars of one id have one width. -/
def WidthOf (ns : List Nd) (id wd : Int) : Prop := ∀ (i : Nat) (m : Nd), ns[i]? = some m → m.op = 2 → m.val = id → m.w = wd
def AgPost (w : World) (tb : Nat) (ns : List Nd) (foot : Nat → Prop) (g : Nat → Option Int) (t : Tr) (op wd val : Int) (e : Ending) (w' : World) : Prop :=
  ∃ y : Int, e = .returned (.tuple #[.int .i64 y, .int .i64 0]) ∧ Got w tb ns foot w' (fun ns' => TP ns (t.sub g) y ns' ∧ ∀ (i : Nat) (m : Nd), ns'[i]? = some m → m.op = 2 → ns[i]? = some m ∨ (op = 2 ∧ m = ⟨2, wd, val, 0, 0, 0⟩))
theorem AgPost.of {w wx w' : World} {tb : Nat} {ns : List Nd} {foot : Nat → Prop} {g : Nat → Option Int} {t T : Tr} {op wd val y : Int} (hb : Below w.heap.size w wx) (e : T = t.sub g) (h : Got wx tb ns foot w' (fun ns' => TP ns T y ns' ∧ NV ns ns')) :
    AgPost w tb ns foot g t op wd val (.returned (.tuple #[.int .i64 y, .int .i64 0])) w' := by
  obtain ⟨ns', foot', st, tp, nv⟩ := h
  exact ⟨y, rfl, ns', foot', st.behind hb, e ▸ tp, fun i m hi ho => .inl (nv i m hi ho)⟩
section
variable {w : World} {tb gb : Nat} {ns : List Nd} {foot : Nat → Prop} {g : Nat → Option Int} {op wd val a b c : Int} {ta tb_ tc : Tr}
structure AgIn (w : World) (tb gb : Nat) (ns : List Nd) (foot : Nat → Prop) (g : Nat → Option Int) (op wd val a b c : Int) (ta tb_ tc : Tr) : Prop where
  ar : Ar w tb ns foot
  hl : ns.length < 65536
  hg : Has w gb 81 (ga g)
  gf : ¬ foot gb
  ok : GOk g
  wf : (Tr.n op wd val ta tb_ tc).wf
  nrm : (Tr.n op wd val ta tb_ tc).nrm
  a : Pt ns g ta a
  b : Pt ns g tb_ b
  c : Pt ns g tc c
  v : op = 2 → WidthOf ns val wd
def AgGoal (w : World) (tb gb : Nat) (ns : List Nd) (foot : Nat → Prop) (g : Nat → Option Int) (op wd val a b c : Int) (ta tb_ tc : Tr) : Prop :=
  Calls Tryd.prog 60 #[ptr tb, .agg #[.int .i64 op, .int .i64 wd, .int .u16 val, .int .i64 a, .int .i64 b, .int .i64 c], ptr gb] w (AgPost w tb ns foot g (.n op wd val ta tb_ tc) op wd val)
set_option maxHeartbeats 800000 in
set_option maxRecDepth 100000 in
theorem again_const (h : AgIn w tb gb ns foot g op wd val a b c ta tb_ tc) (ho : op = 1) : AgGoal w tb gb ns foot g op wd val a b c ta tb_ tc := by
  unfold AgGoal
  subst ho
  have HE : Hid (Tr.mkC wd (low wd val) = (Tr.n 1 wd val ta tb_ tc).sub g) := by
    show _ = _
    rw [Tr.sub, if_pos rfl, show low wd val = val from Int.emod_eq_of_lt h.wf.1.v0 (h.wf.1.one rfl).1]; rfl
  have HC := Lib.hid (u_const (w.alloc (.cells #[.int .i64 1, .int .i64 wd, .int .u16 val, .int .i64 a, .int .i64 b, .int .i64 c] 85)) tb ns foot wd val (h.ar.alloc _) h.hl h.wf.1.mw h.wf.1.v0 h.wf.1.v1)
  clear h
  go_enter Tryd.func60, Tryd.ntmps60
  go_wp2_with fail
  refine HC.out.mono ?_
  rintro e w1 ⟨y, rfl, hg⟩
  have HG := Lib.hid hg
  clear hg
  go_wp2_with fail
  go_ret2
  exact AgPost.of ((Below.refl _ _).alloc (Nat.le_refl _) _) HE.out HG.out
set_option maxHeartbeats 800000 in
set_option maxRecDepth 100000 in
theorem again_not (h : AgIn w tb gb ns foot g op wd val a b c ta tb_ tc) (ho : op = 3) : AgGoal w tb gb ns foot g op wd val a b c ta tb_ tc := by
  unfold AgGoal
  subst ho
  have ha0 := (h.wf.1.three (by decide) (by decide)).2
  have hb0 := (h.wf.1.ar (by decide) (by decide)).2.2.1
  have HE : Hid (Tr.mk 3 (tr ns a).w (tr ns a) .o .o = (Tr.n 3 wd val ta tb_ tc).sub g) := by
    show _ = _
    rw [Tr.sub, if_neg (by decide), if_neg (by decide), if_neg (by decide), if_neg (by decide), h.a.tr, hb0 rfl]; rfl
  have HC := Lib.hid (u_not (w.alloc (.cells #[.int .i64 3, .int .i64 wd, .int .u16 val, .int .i64 a, .int .i64 b, .int .i64 c] 85)) tb ns foot a (h.ar.alloc _) h.hl (h.a.t ha0))
  clear hb0 ha0
  clear h
  go_enter Tryd.func60, Tryd.ntmps60
  go_wp2_with fail
  refine HC.out.mono ?_
  rintro e w1 ⟨y, rfl, hg⟩
  have HG := Lib.hid hg
  clear hg
  go_wp2_with fail
  go_ret2
  exact AgPost.of ((Below.refl _ _).alloc (Nat.le_refl _) _) HE.out HG.out
set_option maxHeartbeats 800000 in
set_option maxRecDepth 100000 in
theorem again_ite (h : AgIn w tb gb ns foot g op wd val a b c ta tb_ tc) (ho : op = 16) : AgGoal w tb gb ns foot g op wd val a b c ta tb_ tc := by
  unfold AgGoal
  subst ho
  have ha0 := (h.wf.1.three (by decide) (by decide)).2
  obtain ⟨hb0, hc0, wa, wb, wc⟩ := h.wf.1.ite rfl
  have HE : Hid (Tr.mkIte (tr ns a) (tr ns b) (tr ns c) = (Tr.n 16 wd val ta tb_ tc).sub g) := by
    show _ = _
    rw [Tr.sub, if_neg (by decide), if_neg (by decide), if_pos rfl, h.a.tr, h.b.tr, h.c.tr]
  have wA : wdt ns a = 1 := by rw [← tr_w h.ar.wf, h.a.tr, (Tr.sub_ok g h.wf.2.1).w, wa]
  have wB : wdt ns b = wd := by rw [← tr_w h.ar.wf, h.b.tr, (Tr.sub_ok g h.wf.2.2.1).w, wb]
  have wC : wdt ns c = wd := by rw [← tr_w h.ar.wf, h.c.tr, (Tr.sub_ok g h.wf.2.2.2).w, wc]
  have HC := Lib.hid (u_ite (w.alloc (.cells #[.int .i64 16, .int .i64 wd, .int .u16 val, .int .i64 a, .int .i64 b, .int .i64 c] 85)) tb ns foot a b c (h.ar.alloc _) h.hl (h.a.t ha0) (h.b.t hb0) (h.c.t hc0) wA (wC.trans wB.symm))
  clear wA wB wC wa wb wc ha0 hb0 hc0
  clear h
  go_enter Tryd.func60, Tryd.ntmps60
  go_wp2_with fail
  refine HC.out.mono ?_
  rintro e w1 ⟨y, rfl, hg⟩
  have HG := Lib.hid hg
  clear hg
  go_wp2_with fail
  go_ret2
  exact AgPost.of ((Below.refl _ _).alloc (Nat.le_refl _) _) HE.out HG.out
set_option maxHeartbeats 800000 in
set_option maxRecDepth 100000 in
theorem again_ext (h : AgIn w tb gb ns foot g op wd val a b c ta tb_ tc) (ho : op = 17) : AgGoal w tb gb ns foot g op wd val a b c ta tb_ tc := by
  unfold AgGoal
  subst ho
  have ha0 := (h.wf.1.three (by decide) (by decide)).2
  have HE : Hid (Tr.mkX 17 wd (tr ns a) = (Tr.n 17 wd val ta tb_ tc).sub g) := by
    show _ = _
    rw [Tr.sub, if_neg (by decide), if_neg (by decide), if_neg (by decide), if_pos (by decide), h.a.tr]
  have wA : wdt ns a = ta.w := by rw [← tr_w h.ar.wf, h.a.tr, (Tr.sub_ok g h.wf.2.1).w]
  have HC := Lib.hid (u_ext (w.alloc (.cells #[.int .i64 17, .int .i64 wd, .int .u16 val, .int .i64 a, .int .i64 b, .int .i64 c] 85)) tb ns foot wd a (h.ar.alloc _) h.hl h.wf.1.mw (h.a.t ha0) (by rw [wA]; exact Int.le_of_lt (h.nrm.1.e rfl)))
  clear wA ha0
  clear h
  go_enter Tryd.func60, Tryd.ntmps60
  go_wp2_with fail
  refine HC.out.mono ?_
  rintro e w1 ⟨y, rfl, hg⟩
  have HG := Lib.hid hg
  clear hg
  go_wp2_with fail
  go_ret2
  exact AgPost.of ((Below.refl _ _).alloc (Nat.le_refl _) _) HE.out HG.out
set_option maxHeartbeats 800000 in
set_option maxRecDepth 100000 in
theorem again_cut (h : AgIn w tb gb ns foot g op wd val a b c ta tb_ tc) (ho : op = 18) : AgGoal w tb gb ns foot g op wd val a b c ta tb_ tc := by
  unfold AgGoal
  subst ho
  have ha0 := (h.wf.1.three (by decide) (by decide)).2
  have HE : Hid (Tr.mkX 18 wd (tr ns a) = (Tr.n 18 wd val ta tb_ tc).sub g) := by
    show _ = _
    rw [Tr.sub, if_neg (by decide), if_neg (by decide), if_neg (by decide), if_pos (by decide), h.a.tr]
  have wA : wdt ns a = ta.w := by rw [← tr_w h.ar.wf, h.a.tr, (Tr.sub_ok g h.wf.2.1).w]
  have HC := Lib.hid (u_cut (w.alloc (.cells #[.int .i64 18, .int .i64 wd, .int .u16 val, .int .i64 a, .int .i64 b, .int .i64 c] 85)) tb ns foot wd a (h.ar.alloc _) h.hl h.wf.1.mw (h.a.t ha0) (by rw [wA]; exact Int.le_of_lt (h.nrm.1.c rfl)))
  clear wA ha0
  clear h
  go_enter Tryd.func60, Tryd.ntmps60
  go_wp2_with fail
  refine HC.out.mono ?_
  rintro e w1 ⟨y, rfl, hg⟩
  have HG := Lib.hid hg
  clear hg
  go_wp2_with fail
  go_ret2
  exact AgPost.of ((Below.refl _ _).alloc (Nat.le_refl _) _) HE.out HG.out
set_option maxHeartbeats 800000 in
set_option maxRecDepth 100000 in
theorem again_two (h : AgIn w tb gb ns foot g op wd val a b c ta tb_ tc) (h4 : 4 ≤ op) (h15 : op ≤ 15) : AgGoal w tb gb ns foot g op wd val a b c ta tb_ tc := by
  unfold AgGoal
  have ha0 := (h.wf.1.three (by omega) (by omega)).2
  obtain ⟨hb0, hbw⟩ := (h.wf.1.ar (by omega) h15).2.2.2 (by omega)
  have HE : Hid (Tr.mk op (outV op (tr ns a).w) (tr ns a) (tr ns b) .o = (Tr.n op wd val ta tb_ tc).sub g) := by
    show _ = _
    rw [Tr.sub, if_neg (by omega), if_neg (by omega), if_neg (by omega), if_neg (by omega), h.a.tr, h.b.tr]
  have wA : wdt ns b = wdt ns a := by rw [← tr_w h.ar.wf, ← tr_w h.ar.wf, h.a.tr, h.b.tr, (Tr.sub_ok g h.wf.2.1).w, (Tr.sub_ok g h.wf.2.2.1).w, hbw]
  have HC := Lib.hid (u_two (w.alloc (.cells #[.int .i64 op, .int .i64 wd, .int .u16 val, .int .i64 a, .int .i64 b, .int .i64 c] 85)) tb ns foot op a b (h.ar.alloc _) h.hl h4 h15 (h.a.t ha0) (h.b.t hb0) wA)
  have t1 : (op == 1) = false := by simp; omega
  have t2 : (op == 2) = false := by simp; omega
  have t3 : (op == 3) = false := by simp; omega
  have t16 : (op == 16) = false := by simp; omega
  have t17 : (op == 17) = false := by simp; omega
  have t18 : (op == 18) = false := by simp; omega
  clear h wA hbw ha0 hb0
  go_enter Tryd.func60, Tryd.ntmps60
  go_wp2_with fail
  refine HC.out.mono ?_
  rintro e w1 ⟨y, rfl, hg⟩
  have HG := Lib.hid hg
  clear hg
  go_wp2_with fail
  go_ret2
  exact AgPost.of ((Below.refl _ _).alloc (Nat.le_refl _) _) HE.out HG.out
set_option maxHeartbeats 800000 in
set_option maxRecDepth 100000 in
theorem again_var (h : AgIn w tb gb ns foot g op wd val a b c ta tb_ tc) (ho : op = 2) : AgGoal w tb gb ns foot g op wd val a b c ta tb_ tc := by
  unfold AgGoal
  subst ho
  have hv0 := h.wf.1.v0
  obtain ⟨hv1, rfl, rfl, rfl⟩ := h.wf.1.two rfl
  obtain ⟨id, rfl⟩ := Int.eq_ofNat_of_zero_le hv0
  have hid : id < 64 := by omega
  have HGH := Lib.hid (h.hg.same (w' := w.alloc (.cells #[.int .i64 2, .int .i64 wd, .int .u16 (id : Int), .int .i64 a, .int .i64 b, .int .i64 c] 85)) (alloc_other h.hg.lt))
  have gi : w.cell? ⟨gb, id, none⟩ = some (.bool (g id).isSome) := ga_is h.hg hid
  have gv : w.cell? ⟨gb, 64 + id, none⟩ = some (.int .u16 ((g id).getD 0)) := ga_val h.hg hid
  have hgl : gb < w.heap.size := h.hg.lt
  have hid' : (id : Int) < 64 := by omega
  clear hv0 hv1
  cases hgi : g id with
  | some v =>
    rw [hgi] at gi gv
    have hvr := h.ok id v hgi
    have HE : Hid (Tr.mkC wd (low wd v) = (Tr.n 2 wd (id : Int) .o .o .o).sub g) := by
      show _ = _
      rw [Tr.sub, if_neg (by decide), if_pos rfl, Int.toNat_natCast, hgi]
    have HC := Lib.hid (fun W (k : Ar W tb ns foot) => u_const W tb ns foot wd v k h.hl h.wf.1.mw hvr.2.1 hvr.2.2)
    have HAR := Lib.hid (h.ar.alloc (.cells #[.int .i64 2, .int .i64 wd, .int .u16 (id : Int), .int .i64 a, .int .i64 b, .int .i64 c] 85))
    have HGF := Lib.hid h.gf
    have HGI := Lib.hid hgi
    have HNF : Hid (¬ foot w.heap.size) := fun hf => Nat.lt_irrefl _ (h.ar.lt _ hf)
    have HBX := Lib.hid (Has.new w 85 #[.int .i64 2, .int .i64 wd, .int .u16 (id : Int), .int .i64 a, .int .i64 b, .int .i64 c])
    obtain ⟨_, hv0, hv1⟩ := hvr
    clear h hgi
    go_enter Tryd.func60, Tryd.ntmps60
    go_wp2_with fail
    go_quiet (fail)
    go_wp2_with fail
    go_region_held3 (fun w' => w'.cell? ⟨gb, 64 + id, none⟩ = some (.int .u16 v) ∧ w'.cell? ⟨w.heap.size, 1, none⟩ = some (.int .i64 wd) ∧ w'.cell? ⟨w.heap.size, 2, none⟩ = some (.int .u16 (id : Int))) (go_keep) ((go_at_call 17; refine (HC.out _ (by exact HAR.out.keep (fun b hb => rfl) (Nat.le_refl _))).mono ?_; rintro e we ⟨y, rfl, hg⟩; have hs0 : we.cell? ⟨gb, 64 + id, none⟩ = some (.int .u16 v) := (by obtain ⟨ns', foot', st, _⟩ := hg; have hh := HGH.out.same (w' := we) (by exact st.kept.block gb (by exact HGH.out.lt) HGF.out); have hv := ga_val hh hid; rw [HGI.out] at hv; exact hv); have hs1 : we.cell? ⟨w.heap.size, 1, none⟩ = some (.int .i64 wd) := (by obtain ⟨ns', foot', st, _⟩ := hg; exact (HBX.out.same (w' := we) (by exact st.kept.block w.heap.size (by exact HBX.out.lt) HNF.out)).cell 1); have hs2 : we.cell? ⟨w.heap.size, 2, none⟩ = some (.int .u16 (id : Int)) := (by obtain ⟨ns', foot', st, _⟩ := hg; exact (HBX.out.same (w' := we) (by exact st.kept.block w.heap.size (by exact HBX.out.lt) HNF.out)).cell 2); have HG := Lib.hid hg; clear hg))
    go_wp2_with fail
    go_ret2
    exact AgPost.of (by first | exact (Below.refl _ _).alloc (Nat.le_refl _) _ | exact below_alike3 ((Below.refl _ _).alloc (Nat.le_refl _) _) rfl rfl rfl rfl) HE.out HG.out
  | none =>
    rw [hgi] at gi gv
    have HE : Hid (Tr.n 2 wd (id : Int) .o .o .o = (Tr.n 2 wd (id : Int) .o .o .o).sub g) := by
      show _ = _
      rw [Tr.sub, if_neg (by decide), if_pos rfl, Int.toNat_natCast, hgi]
    have HC := Lib.hid (fun W (k : Ar W tb ns foot) => u_var W tb ns foot wd id k h.hl h.wf.1.mw hid (fun i m hi ho hv => h.v rfl i m hi ho hv))
    have HAR := Lib.hid (h.ar.alloc (.cells #[.int .i64 2, .int .i64 wd, .int .u16 (id : Int), .int .i64 a, .int .i64 b, .int .i64 c] 85))
    clear h hgi
    go_enter Tryd.func60, Tryd.ntmps60
    go_wp2_with fail
    go_quiet (fail)
    go_wp2_with fail
    refine (HC.out _ (by exact HAR.out.keep (fun b hb => rfl) (Nat.le_refl _))).mono ?_
    rintro e we ⟨y, rfl, hg⟩
    have HG := Lib.hid hg
    clear hg
    go_wp2_with fail
    go_ret2
    obtain ⟨ns', foot', st, tp, nvv⟩ := HG.out
    exact ⟨y, rfl, ns', foot', st.behind (by first | exact (Below.refl _ _).alloc (Nat.le_refl _) _ | exact below_alike3 ((Below.refl _ _).alloc (Nat.le_refl _) _) rfl rfl rfl rfl), by rw [← HE.out]; exact tp, fun i m hi ho => (nvv i m hi ho).imp (fun k => k) (fun k => ⟨rfl, k⟩)⟩
theorem again_any (h : AgIn w tb gb ns foot g op wd val a b c ta tb_ tc) : AgGoal w tb gb ns foot g op wd val a b c ta tb_ tc := by
  obtain ⟨l, r⟩ : 1 ≤ op ∧ op ≤ 18 := by have := h.wf.1.o0; have := h.wf.1.o1; omega
  by_cases h1 : op = 1
  · exact again_const h h1
  by_cases h2 : op = 2
  · exact again_var h h2
  by_cases h3 : op = 3
  · exact again_not h h3
  by_cases h16 : op = 16
  · exact again_ite h h16
  by_cases h17 : op = 17
  · exact again_ext h h17
  by_cases h18 : op = 18
  · exact again_cut h h18
  exact again_two h (by omega) (by omega)
end
end Go.Proofs.YtgbmiphaabeodaaDoor
