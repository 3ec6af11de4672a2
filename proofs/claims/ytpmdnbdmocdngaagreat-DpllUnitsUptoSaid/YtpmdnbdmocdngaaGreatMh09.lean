/-
  Parts of the proof, joined: DpllQ3, DpllB, DpllB2, DpllB3.
-/
import Derived.Test.YtpmdnbdmocdngaaGreatMh08
import Derived.Deep.AppendLies
import Derived.Laws.Rows
import Derived.Test.YtpmdnbdmocdngaaGreatMh07
import Derived.Deep.LoopGhost

namespace Go.Proofs.YtpmdnbdmocdngaaGreat
open Go.ChangeShapes Go.WideShapes Go.ChangeAt Go.RowKit
set_option linter.unusedVariables false
set_option linter.unusedSimpArgs false

theorem infoI32 : (Tryz.prog.info? 21).map (fun i => (i.zero, i.size, i.bytes)) = some (some (.int .i32 0), 1, 4) := by kernel_rfl
/-- The queue with another set of numbers that wait. -/
def QSet (B : Nat) (τ : Nat → Nat) (w : World) (p n : Nat) (d : Sd) (S : Nat → Prop) (w' : World) : Prop :=
  ∃ τ' hp' pl', Sr B τ' w' p n { d with hp := hp', pl := pl' } ∧ Stp τ τ' w w' ∧ QOk n hp' pl' ∧ ∀ u, u ∈ hp' ↔ S u
section
variable {B : Nat} {τ : Nat → Nat} {w : World} {p n : Nat} {d : Sd}
set_option maxHeartbeats 1600000 in
theorem qadd_any (h : Sr B τ w p n d) (hq : QOk n d.hp d.pl) (hn : n ≤ 65536) (hsc : d.sc.length = n) {v : Nat} (hv : v < n) :
    Calls Tryz.prog 89 #[qp p, .int .i32 (v : Int)] w fun e w' => e = .returned (.tuple #[]) ∧ QSet B τ w p n d (fun u => u = v ∨ u ∈ d.hp) w' := by
  obtain ⟨g2, c2, a2⟩ := h.at_pl (by have := hq.len; omega)
  have f10 := a2.len_pl.1
  have l10 := a2.len_pl.2
  have k10 := a2.cap
  have z2 := a2.lt
  have zp := h.plt
  have hpl := hq.len
  by_cases hm : v ∈ d.hp
  · obtain ⟨j, hj⟩ := List.getElem?_of_mem hm
    have x2 := a2.pl (hq.at_ j v hj).2
    have hjb : (j : Int) ≠ -1 := by omega
    have hjn : ((j : Int) == -1) = false := beq_eq_false_iff_ne.2 hjb
    have HS : Hid (QSet B τ w p n d (fun u => u = v ∨ u ∈ d.hp) w) := ⟨τ, d.hp, d.pl, h, Stp.refl _ _, hq, fun u => ⟨.inr, fun hu => hu.elim (fun e => e ▸ hm) id⟩⟩
    have hvl : v < d.pl.length := by omega
    clear h hq a2 hm hj hpl
    go_enter Tryz.func89, Tryz.ntmps89
    go_wp2_with fail
    go_end0
    exact ⟨rfl, HS.out⟩
  · have x2 := a2.pl (hq.out v hv hm)
    obtain ⟨hqh, hmem, hlt⟩ := hq.last hv hm
    obtain ⟨A, c0, f9, ho⟩ := h.own_hp
    obtain ⟨i0, hi0, hz0, hz1, hz2⟩ := info_parts infoI32
    have HI := Lib.hid (show _ ∧ _ ∧ _ ∧ _ from ⟨hi0, hz0, hz1, hz2⟩)
    have HO := Lib.hid ho
    have FIN := Lib.hid (show ∀ (wp : World) (c g1 : Nat), (w.alloc (.cells #[.int .i32 (v : Int)] 21)).grownBy wp (Value.slice A d.hp.length c0).ownBlock → wp.ownsRow 0 21 1 (.slice (some ⟨g1, 0, none⟩) (d.hp.length + 1) c) (d.hp.length + 1) (n32 d.hp ++ [.int .i32 (v : Int)]) → ((Value.slice A d.hp.length c0).ownBlock = some g1 ∨ g1 = w.heap.size + 1) →
        (wp.cell? ⟨p, 9, none⟩ = some (.slice A d.hp.length c0) ∧ wp.frozen? ⟨p, 9, none⟩ = false) ∧ ∃ τ', Sr B τ' (wp.setCell ⟨p, 9, none⟩ (.slice (some ⟨g1, 0, none⟩) (d.hp.length + 1) c)) p n { d with hp := d.hp ++ [v] } ∧ Stp τ τ' w (wp.setCell ⟨p, 9, none⟩ (.slice (some ⟨g1, 0, none⟩) (d.hp.length + 1) c)) from fun wp c g1 hg hown hat => by
      have b1 : Below w.heap.size w (w.alloc (.cells #[.int .i32 (v : Int)] 21)) := (Below.refl _ _).alloc (Nat.le_refl _) _
      have f9' : (w.alloc (.cells #[.int .i32 (v : Int)] 21)).cell? ⟨p, 9, none⟩ = some (.slice A d.hp.length c0) := (b1.cell zp).trans f9
      obtain ⟨h1, τ', h2, h3⟩ := (h.below b1).grow_hp (x := v) f9' hg hown (hat.imp id (fun e => by simp; omega))
      exact ⟨⟨h1.1.trans f9', h1.2⟩, τ', h2, (Stp.of_below τ b1).trans h3⟩)
    have CU := Lib.hid (fun (W : World) (τ' : Nat → Nat) (h' : Sr B τ' W p n { d with hp := d.hp ++ [v] }) => qup_any h' (i := d.hp.length) (v := v) hqh hn (by simp; omega) hsc)
    have HM := Lib.hid hmem
    have hlb : d.hp.length < 65536 := by omega
    have hvl : v < d.pl.length := by omega
    have hwl : IntKind.i64.wrap (((d.hp.length + 1 : Nat) : Int) - 1) = (d.hp.length : Int) := by rw [IntWalk.i64_in _ (by omega)]; omega
    have hwl2 : IntKind.i64.wrap ((d.hp.length : Int) + 1 - 1) = (d.hp.length : Int) := by rw [IntWalk.i64_in _ (by omega)]; omega
    clear h hq a2 hm hpl hqh hmem ho hi0 hz0 hz1 hz2 hlt hsc
    go_enter Tryz.func89, Tryz.ntmps89
    go_wp2_with (at_builtin; refine wpList_append_lies _ rfl _ _ _ rfl 0 21 i0 _ 1 4 Tryz.underlying122 HI.out.1 HI.out.2.1 HI.out.2.2.1 HI.out.2.2.2 rfl (by omega) (.slice A d.hp.length c0) d.hp.length (n32 d.hp) rfl (HO.out.alloc _) ⟨w.heap.size, 0, none⟩ 1 1 [.int .i32 (v : Int)] rfl rfl (World.news_of_block (cs := #[.int .i32 (v : Int)]) (t := 21) (fr := (0, 0)) (new_heap w _)) (by simp [Value.oneCell']) (by omega) (by unfold maxLen; omega) (by omega) (Nat.zero_le _) (w.heap.size + 1) (by simp) ?_; intro g1 c1 wp hown1 hg1 hat1 hlt1; have HF := FIN.out wp c1 g1 hg1 hown1 hat1; have c9 := HF.1.1; have r9 := HF.1.2; have HFF := Lib.hid HF.2; clear hown1 hg1 hat1 hlt1 HF)
    obtain ⟨τ', h2, h3⟩ := HFF.out
    have HS3 := Lib.hid h3
    have CU2 := Lib.hid (CU.out _ τ' h2)
    clear h2 h3 HFF
    (with_reducible refine CU2.out.mono ?_)
    rintro e w2 ⟨rfl, hp', pl', q1, q2, q3, q4, q5⟩
    have HQ : Hid (QSet B τ w p n d (fun u => u = v ∨ u ∈ d.hp) w2) := ⟨τ', hp', pl', q1, HS3.out.trans (Stp.of_step q2 (by decide)), q3, fun u => (q5 u).trans (HM.out u)⟩
    clear q1 q2 q3 q4 q5
    go_wp2_with fail
    go_end0
    exact ⟨rfl, HQ.out⟩
set_option maxHeartbeats 1600000 in
theorem qtake_none (h : Sr B τ w p n d) (hq : d.hp.length = 0) :
    Calls Tryz.prog 102 #[qp p] w fun e w' => e = .returned (.int .i32 (-1)) ∧ w = w' := by
  obtain ⟨A, cap, f9, _⟩ := h.head_hp
  have zp := h.plt
  rw [hq] at f9
  clear h hq
  go_enter Tryz.func102, Tryz.ntmps102
  go_wp2_with fail
  go_ret
  exact ⟨rfl, rfl⟩
set_option maxHeartbeats 1600000 in
theorem qtake_any (h : Sr B τ w p n d) (hq : QOk n d.hp d.pl) (hn : n ≤ 65536) (hsc : d.sc.length = n) {v : Nat} (hv : d.hp[0]? = some v) :
    Calls Tryz.prog 102 #[qp p] w fun e w' => e = .returned (.int .i32 (v : Int)) ∧ QSet B τ w p n d (fun u => u ∈ d.hp ∧ u ≠ v) w' := by
  have hpl := hq.len
  have hle := hq.le
  have h0 := (List.getElem?_eq_some_iff.1 hv).1
  obtain ⟨m, hm⟩ : ∃ m, d.hp.length = m + 1 := ⟨d.hp.length - 1, by omega⟩
  obtain ⟨l, hl⟩ : ∃ l, d.hp[m]? = some l := ⟨_, List.getElem?_eq_getElem (by omega)⟩
  have hvn := (hq.at_ 0 v hv).1
  obtain ⟨g1, c1, a1⟩ := h.at_hp (by omega)
  obtain ⟨g2, c2, a2⟩ := h.at_pl (by omega)
  have hF := hq.first hm hv hl
  have f9 := a1.len_hp.1
  have f10 := a2.len_pl.1
  have l9 := a1.len_hp.2
  have l10 := a2.len_pl.2
  have k9 := a1.cap
  have k10 := a2.cap
  have x0 := a1.hp hv
  have x1 := a1.hp hl
  have x2 := a2.pl (hq.at_ 0 v hv).2
  have r2 := a2.free
  have z1 := a1.lt
  have z2 := a2.lt
  have zp := h.plt
  have rp := h.pfree
  have n1 := a1.ne
  have n2 := a2.ne
  have e1 := h.cut_hp (m := m) f9 (by omega) (fun e => by cases e)
  have hpl2 : v < d.pl.length := by omega
  have e2 := e1.1.put_pl (a2.own (by decide)) hpl2 (-1)
  have e3 := h.put_pl a2 hpl2 (-1)
  have e4 := e3.1.cut_hp (m := m) (A := some ⟨g1, 0, none⟩) (m0 := d.hp.length) (cap := c1) ((World.cell?_of_block (set_other (p := ⟨g2, v, none⟩) n2.symm)).trans f9) (by show m ≤ d.hp.length; omega) (fun e => by cases e)
  have HA := Lib.hid (And.intro e2.1 (e1.2.trans e2.2))
  have HB := Lib.hid (And.intro e4.1 (e3.2.trans e4.2))
  rw [hm] at f9 l9
  have hw : IntKind.i64.wrap (((m + 1 : Nat) : Int) - 1) = (m : Int) := by rw [IntWalk.i64_in _ (by omega)]; omega
  have hw2 : IntKind.i64.wrap ((m : Int) + 1 - 1) = (m : Int) := by rw [IntWalk.i64_in _ (by omega)]; omega
  have hmn : m < 65536 := by omega
  have hm0 : ¬ (m : Int) + 1 = 0 := by omega
  have hm1 : ((m : Int) + 1 == 0) = false := beq_eq_false_iff_ne.2 hm0
  have HF := Lib.hid hF
  have HSC := Lib.hid hsc
  have HLE := Lib.hid hle
  have HM := Lib.hid hm
  clear h hq a1 a2 e1 e2 e3 e4 hF hv hl hpl hsc hle hm
  go_enter Tryz.func102, Tryz.ntmps102
  go_wp2_with fail
  go_region
  go_wp2_with fail
  go_region
  have HSR := Lib.hid (HA.out.1.alike (W := ((w.setCell ⟨p, 9, none⟩ (.slice (some ⟨g1, 0, none⟩) m c1)).setCell ⟨g2, v, none⟩ (.int .i32 (-1))).drew.drew) rfl rfl rfl rfl)
  have HST := Lib.hid (HA.out.2.alike (W := ((w.setCell ⟨p, 9, none⟩ (.slice (some ⟨g1, 0, none⟩) m c1)).setCell ⟨g2, v, none⟩ (.int .i32 (-1))).drew.drew) rfl rfl rfl rfl)
  generalize ((w.setCell ⟨p, 9, none⟩ (.slice (some ⟨g1, 0, none⟩) m c1)).setCell ⟨g2, v, none⟩ (.int .i32 (-1))).drew.drew = W2 at *
  by_cases hmp : 0 < m
  · have hmi : (0 : Int) < (m : Int) := by omega
    obtain ⟨q1, q2⟩ := HF.out.1 hmp
    have HM2 := Lib.hid q2
    have CD := Lib.hid (show Calls Tryz.prog 133 #[qp p, .int .i64 0, .int .i32 (l : Int)] W2 (fun e w' => e = .returned (.tuple #[]) ∧ QDone B τ W2 p n { d with hp := d.hp.take m, pl := d.pl.set v (-1) } (Wh (d.hp.take m) 0 l) w') from
      qdown_any HSR.out (i := 0) q1 hn (by show (d.hp.take m).length ≤ n; rw [List.length_take]; have := HLE.out; omega) HSC.out)
    clear q1 q2
    go_wp2_with fail
    (with_reducible refine CD.out.mono ?_)
    rintro e w2 ⟨rfl, hp', pl', q1, q2, q3, q4, q5⟩
    have HQ : Hid (QSet B τ w p n d (fun u => u ∈ d.hp ∧ u ≠ v) w2) := ⟨τ, hp', pl', q1, HST.out.trans (Stp.of_step q2 (by decide)), q3, fun u => (q5 u).trans (HM2.out u)⟩
    clear q1 q2 q3 q4 q5
    go_wp2_with fail
    go_ret
    exact ⟨rfl, HQ.out⟩
  · have hmi : (m : Int) ≤ 0 := by omega
    obtain ⟨q1, q2⟩ := HF.out.2 (by omega)
    have HQ : Hid (QSet B τ w p n d (fun u => u ∈ d.hp ∧ u ≠ v) W2) := ⟨τ, _, _, HSR.out, HST.out, q1, q2⟩
    clear q1 q2
    go_wp2_with fail
    go_ret
    exact ⟨rfl, HQ.out⟩
end
end Go.Proofs.YtpmdnbdmocdngaaGreat

namespace Go.Proofs.YtpmdnbdmocdngaaGreat
open Go.ChangeShapes Go.WideShapes Go.ChangeAt Go.RowKit
set_option linter.unusedVariables false
set_option linter.unusedSimpArgs false

theorem infoLit : (Tryz.prog.info? 138).map (fun i => (i.zero, i.size, i.bytes)) = some (some (.int .i32 0), 1, 4) := by kernel_rfl
/-- With l that holds. -/
def Sd.held (d : Sd) (l : Nat) (k : Int) : Sd := { d with wo := (d.wo.set l 1).set (oth l) (-1), dp := d.dp.set (l / 2) d.ma.length, wy := d.wy.set (l / 2) k, tr := d.tr ++ [l] }
/-- The lists' lengths. -/
structure Len (n : Nat) (d : Sd) : Prop where
  nb : n ≤ 65536
  wo : d.wo.length = 2 * n
  dp : d.dp.length = n
  wy : d.wy.length = n
  lk : d.lk.length = n
  sc : d.sc.length = n
  se : d.se.length = n
  co : d.co.length = n + 1
  tr : d.tr.length ≤ n
  ma : d.ma.length ≤ n
  nu : d.nu.length ≤ n
section
variable {B : Nat} {τ : Nat → Nat} {w : World} {p n : Nat} {d : Sd}
set_option maxHeartbeats 1600000 in
theorem hold_lit (h : Sr B τ w p n d) (L : Len n d) {l : Nat} (hl : l < 2 * n) (k : Int) :
    Calls Tryz.prog 99 #[ptr p, .int .i32 (l : Int), .int .i32 k] w fun e w' => e = .returned (.tuple #[]) ∧ ∃ τ', Sr B τ' w' p n (d.held l k) ∧ Stp τ τ' w w' := by
  have hn := L.nb
  have hol := oth_lt hl
  obtain ⟨g, c, a⟩ := h.at_wo (by rw [L.wo]; omega)
  obtain ⟨y1, hy1⟩ : ∃ y, d.wo[l]? = some y := ⟨_, List.getElem?_eq_getElem (by rw [L.wo]; exact hl)⟩
  obtain ⟨y2, hy2⟩ : ∃ y, d.wo[oth l]? = some y := ⟨_, List.getElem?_eq_getElem (by rw [L.wo]; exact hol)⟩
  have f2 := a.len_wo.1
  have l2 := a.len_wo.2
  have k2 := a.cap
  have x1 := a.wo hy1
  have x2 := a.wo hy2
  have fr := a.free
  have z2 := a.lt
  have zp := h.plt
  have n2 := a.ne
  obtain ⟨N, hN⟩ : ∃ N, d.wo.length = N := ⟨_, rfl⟩
  have hN2 : N = 2 * n := by rw [← hN]; exact L.wo
  rw [hN] at f2 l2
  have b1 : (0 : Int) ≤ (l : Int) := by omega
  have b2 : (l : Int) < (N : Int) := by omega
  have b3 : (0 : Int) ≤ (oth l : Int) := by omega
  have b4 : (oth l : Int) < (N : Int) := by omega
  have CO := Lib.hid (fun W => loth_any l W (by omega))
  have CN := Lib.hid (fun W => lnum_any l W (by omega))
  have s1 := h.put_wo a (by rw [L.wo]; exact hl) 1
  have s2 := s1.1.put_wo (g := g) (cap := c) (i := oth l) (by
    have := s1.1
    obtain ⟨g', c', a'⟩ := this.at_wo (by show 0 < (d.wo.set l 1).length; rw [List.length_set, L.wo]; omega)
    have e := a'.head
    rw [(World.cell?_of_block (set_other (p := ⟨g, l, none⟩) n2.symm)).trans a.head] at e
    injection e with e; injection e with e _ e3; injection e with e; injection e with e
    subst e; subst e3; exact a') (by show oth l < (d.wo.set l 1).length; rw [List.length_set, L.wo]; exact hol) (-1)
  have HA := Lib.hid (And.intro s2.1 (s1.2.trans s2.2))
  have HL := Lib.hid L
  have KA : ∀ (W : World) (o : Nat) (u : Value), W.cell? ⟨p, 2, none⟩ = some (.slice (some ⟨g, 0, none⟩) N c) → (W.setCell ⟨g, o, none⟩ u).cell? ⟨p, 2, none⟩ = some (.slice (some ⟨g, 0, none⟩) N c) := fun W o u h => (World.cell?_of_block (set_other (p := ⟨g, o, none⟩) n2.symm)).trans h
  have hne := oth_ne l
  have HN2 := Lib.hid hN2
  clear h a hy1 hy2 s1 s2 L hN hN2
  have hob : oth l < 131073 := by omega
  go_enter Tryz.func99, Tryz.ntmps99
  go_wp2_with fail
  go_region_held3 (fun w' => w'.cell? ⟨p, 2, none⟩ = some (.slice (some ⟨g, 0, none⟩) N c)) (first | go_keep | (exact KA _ _ _ (by assumption))) ((go_at_call 91; (with_reducible refine (CO.out _).mono ?_); rintro e we ⟨rfl, rfl⟩))
  have R := Lib.hid (HA.out.1.alike (W := ((w.setCell ⟨g, l, none⟩ (.int .i8 1)).setCell ⟨g, oth l, none⟩ (.int .i8 (-1))).drew) rfl rfl rfl rfl)
  have RS := Lib.hid (HA.out.2.alike (W := ((w.setCell ⟨g, l, none⟩ (.int .i8 1)).setCell ⟨g, oth l, none⟩ (.int .i8 (-1))).drew) rfl rfl rfl rfl)
  generalize ((w.setCell ⟨g, l, none⟩ (.int .i8 1)).setCell ⟨g, oth l, none⟩ (.int .i8 (-1))).drew = W1 at *
  clear HA KA f2 l2 k2 x1 x2 fr z2 zp n2
  have hv : l / 2 < n := by omega
  obtain ⟨g1, c1, a1⟩ := R.out.at_dp (by show 0 < d.dp.length; rw [HL.out.dp]; omega)
  obtain ⟨g2, c2, a2⟩ := R.out.at_wy (by show 0 < d.wy.length; rw [HL.out.wy]; omega)
  obtain ⟨AM, cm, f4, _⟩ := R.out.head_ma
  obtain ⟨y1, hy1⟩ : ∃ y, d.dp[l / 2]? = some y := ⟨_, List.getElem?_eq_getElem (by rw [HL.out.dp]; exact hv)⟩
  obtain ⟨y2, hy2⟩ : ∃ y, d.wy[l / 2]? = some y := ⟨_, List.getElem?_eq_getElem (by rw [HL.out.wy]; exact hv)⟩
  have f6 := a1.len_dp.1
  have f7 := a2.len_wy.1
  have l6 := a1.len_dp.2
  have l7 := a2.len_wy.2
  have k6 := a1.cap
  have k7 := a2.cap
  have x6 := a1.dp hy1
  have x7 := a2.wy hy2
  have r6 := a1.free
  have r7 := a2.free
  have z6 := a1.lt
  have z7 := a2.lt
  have zp := R.out.plt
  have n6 := a1.ne
  have n7 := a2.ne
  have n67 := a1.apart a2 (by decide)
  have f4' : W1.cell? ⟨p, 4, none⟩ = some (.slice AM d.ma.length cm) := f4
  have hml : d.ma.length ≤ 65536 := by have := HL.out.ma; omega
  have hcv : IntKind.i32.wrap (d.ma.length : Int) = (d.ma.length : Int) := by rw [IntKind.wrap_i32]; omega
  have s1 := R.out.put_dp a1 (by show l / 2 < d.dp.length; rw [HL.out.dp]; exact hv) d.ma.length
  have s2 := s1.1.put_wy (a2.other n6.symm n67.symm) (by show l / 2 < d.wy.length; rw [HL.out.wy]; exact hv) k
  have t1 := R.out.put_wy a2 (by show l / 2 < d.wy.length; rw [HL.out.wy]; exact hv) k
  have t2 := t1.1.put_dp (a1.other n7.symm n67) (by show l / 2 < d.dp.length; rw [HL.out.dp]; exact hv) d.ma.length
  have HA := Lib.hid (And.intro s2.1 (s1.2.trans s2.2))
  have HB := Lib.hid (And.intro t2.1 (t1.2.trans t2.2))
  have e6 : (l / 2 : Nat) < d.dp.length := by rw [HL.out.dp]; exact hv
  have e7 : (l / 2 : Nat) < d.wy.length := by rw [HL.out.wy]; exact hv
  clear a1 a2 hy1 hy2 s1 s2 t1 t2 f4
  obtain ⟨v, hv2⟩ : ∃ v, l / 2 = v := ⟨_, rfl⟩
  rw [hv2] at CN HA HB hv x6 x7 e6 e7
  have HV := Lib.hid hv2
  clear hv2
  have v1 : (0 : Int) ≤ (v : Int) := by omega
  have v2 : (v : Int) < (d.dp.length : Int) := by omega
  have v3 : (v : Int) < (d.wy.length : Int) := by omega
  go_wp2_with fail
  (with_reducible refine (CN.out _).mono ?_)
  rintro e we ⟨rfl, rfl⟩
  go_wp2_with fail
  go_region
  have R := Lib.hid (HA.out.1.alike (W := ((W1.setCell ⟨g1, v, none⟩ (.int .i32 (d.ma.length : Int))).setCell ⟨g2, v, none⟩ (.int .i32 k)).drew) rfl rfl rfl rfl)
  have RS := Lib.hid (RS.out.trans (HA.out.2.alike (W := ((W1.setCell ⟨g1, v, none⟩ (.int .i32 (d.ma.length : Int))).setCell ⟨g2, v, none⟩ (.int .i32 k)).drew) rfl rfl rfl rfl))
  generalize ((W1.setCell ⟨g1, v, none⟩ (.int .i32 (d.ma.length : Int))).setCell ⟨g2, v, none⟩ (.int .i32 k)).drew = W2 at *
  clear HA HB f6 f7 l6 l7 k6 k7 x6 x7 r6 r7 z6 z7 zp n6 n7 n67 f4' e6 e7
  obtain ⟨AT, c0, f3, ho⟩ := R.out.own_tr
  have f3' : W2.cell? ⟨p, 3, none⟩ = some (.slice AT d.tr.length c0) := f3
  obtain ⟨i0, hi0, hz0, hz1, hz2⟩ := info_parts infoLit
  have HI := Lib.hid (show _ ∧ _ ∧ _ ∧ _ from ⟨hi0, hz0, hz1, hz2⟩)
  have HO := Lib.hid (show W2.ownsRow 0 138 1 (.slice AT d.tr.length c0) d.tr.length (n32 d.tr) from ho)
  have FIN := Lib.hid (R.out.fin_tr l f3)
  have hlb : d.tr.length ≤ 65536 := by have := HL.out.tr; omega
  have zp := R.out.plt
  clear hi0 hz0 hz1 hz2 f3 ho
  go_wp2_with (at_builtin; refine wpList_append_lies _ rfl _ _ _ rfl 0 138 i0 _ 1 4 Tryz.underlying123 HI.out.1 HI.out.2.1 HI.out.2.2.1 HI.out.2.2.2 rfl (by omega) (.slice AT d.tr.length c0) d.tr.length (n32 d.tr) rfl (HO.out.alloc _) ⟨W2.heap.size, 0, none⟩ 1 1 [.int .i32 (l : Int)] rfl rfl (World.news_of_block (cs := #[.int .i32 (l : Int)]) (t := 138) (fr := (0, 0)) (new_heap W2 _)) (by simp [Value.oneCell']) (by omega) (by unfold maxLen; omega) (by omega) (Nat.zero_le _) (W2.heap.size + 1) (by simp) ?_; intro g1 c1 wp hown1 hg1 hat1 hlt1; have HF := FIN.out wp c1 g1 hg1 hown1 hat1; have c9 := HF.1.1; have r9 := HF.1.2; have HFF := Lib.hid HF.2; clear hown1 hg1 hat1 hlt1 HF)
  obtain ⟨τ', h2, h3⟩ := HFF.out
  have HE : Hid (∃ τ', Sr B τ' _ p n { d with wo := (d.wo.set l 1).set (oth l) (-1), dp := d.dp.set v d.ma.length, wy := d.wy.set v k, tr := d.tr ++ [l] } ∧ Stp τ τ' w _) := ⟨τ', h2, RS.out.trans h3⟩
  clear h2 h3
  go_end0
  exact ⟨rfl, by unfold Sd.held; rw [HV.out]; exact HE.out⟩
end
end Go.Proofs.YtpmdnbdmocdngaaGreat

namespace Go.Proofs.YtpmdnbdmocdngaaGreat
open Go.ChangeShapes Go.WideShapes Go.ChangeAt Go.RowKit
set_option linter.unusedVariables false
set_option linter.unusedSimpArgs false

section
variable {B : Nat} {τ : Nat → Nat} {w : World} {p n : Nat} {d : Sd}
set_option maxHeartbeats 1600000 in
theorem decide_any (h : Sr B τ w p n d) (L : Len n d) (hm : d.ma.length < n) {l : Nat} (hl : l < 2 * n) :
    Calls Tryz.prog 67 #[ptr p, .int .i32 (l : Int)] w fun e w' => e = .returned (.tuple #[]) ∧ ∃ τ', Sr B τ' w' p n (({ d with ma := d.ma ++ [d.tr.length] } : Sd).held l (-1)) ∧ Stp τ τ' w w' := by
  obtain ⟨AM, c0, f4, ho⟩ := h.own_ma
  obtain ⟨AT, ct, f3, _⟩ := h.head_tr
  have hn := L.nb
  have hlb : d.ma.length ≤ 65536 := by omega
  have htb : d.tr.length ≤ 65536 := by have := L.tr; omega
  have zp := h.plt
  have rp := h.pfree
  obtain ⟨i0, hi0, hz0, hz1, hz2⟩ := info_parts infoInt
  have HI := Lib.hid (show _ ∧ _ ∧ _ ∧ _ from ⟨hi0, hz0, hz1, hz2⟩)
  have HO := Lib.hid ho
  have FIN := Lib.hid (h.fin_ma d.tr.length f4)
  have HL := Lib.hid (show Len n { d with ma := d.ma ++ [d.tr.length] } from ⟨L.nb, L.wo, L.dp, L.wy, L.lk, L.sc, L.se, L.co, L.tr, by show (d.ma ++ [d.tr.length]).length ≤ n; rw [List.length_append]; simp; omega, L.nu⟩)
  clear h ho hi0 hz0 hz1 hz2 L
  go_enter Tryz.func67, Tryz.ntmps67
  go_wp2_with fail
  go_region_law ((refine step_append_lies _ (by rfl) _ _ _ (by rfl) 0 3 i0 _ 1 8 Tryz.underlying36 HI.out.1 HI.out.2.1 HI.out.2.2.1 HI.out.2.2.2 rfl (by omega) (.slice AM d.ma.length c0) d.ma.length (n64 d.ma) (by rfl) (by exact row_same (HO.out.alloc _) rfl) ⟨w.heap.size, 0, none⟩ 1 1 [.int .i64 (d.tr.length : Int)] (by rfl) (by rfl) (by exact World.news_of_block (cs := #[.int .i64 (d.tr.length : Int)]) (t := 3) (fr := (0, 0)) (new_at (W := w) rfl rfl)) (by simp [Value.oneCell']) (by omega) (by unfold maxLen; omega) (by omega) (Nat.zero_le _) (w.heap.size + 1) (by simp) ?_; intro g1 c1 wp hown1 hg1 hat1 hlt1; have HF := FIN.out wp c1 g1 (grown_alike hg1 rfl rfl rfl rfl) hown1 hat1; have c9 := HF.1.1; have r9 := HF.1.2; have HFF := Lib.hid HF.2; clear hown1 hg1 hat1 hlt1 HF))
  all_goals
    obtain ⟨τ1, h2, h3⟩ := HFF.out
    have RS := Lib.hid h3
    have CH := Lib.hid (hold_lit h2 HL.out hl (-1))
    clear h2 h3 HFF
    go_wp2_with fail
    (with_reducible refine CH.out.mono ?_)
    rintro e w2 ⟨rfl, τ2, q1, q2⟩
    have HE : Hid (∃ τ', Sr B τ' w2 p n (({ d with ma := d.ma ++ [d.tr.length] } : Sd).held l (-1)) ∧ Stp τ τ' w w2) := ⟨τ2, q1, RS.out.trans q2⟩
    clear q1 q2
    go_wp2_with fail
    go_end0
    exact ⟨rfl, HE.out⟩
end
end Go.Proofs.YtpmdnbdmocdngaaGreat

namespace Go.Proofs.YtpmdnbdmocdngaaGreat
open Go.ChangeShapes Go.WideShapes Go.ChangeAt Go.RowKit
set_option linter.unusedVariables false
set_option linter.unusedSimpArgs false

theorem nodup_sub : ∀ (l S : List Nat), l.Nodup → (∀ z ∈ l, z ∈ S) → l.length ≤ S.length
  | [], S, _, _ => Nat.zero_le _
  | a :: l, S, hd, h => by
    have ha := h a (List.mem_cons_self ..)
    obtain ⟨h1, h2⟩ := List.nodup_cons.1 hd
    have := nodup_sub l (S.erase a) h2 fun z hz => (List.mem_erase_of_ne (fun e => h1 (by subst e; exact hz))).2 (h z (List.mem_cons_of_mem _ hz))
    rw [List.length_erase_of_mem ha] at this
    have : 0 < S.length := List.length_pos_of_mem ha
    rw [List.length_cons]; omega
def PickPost (B : Nat) (τ : Nat → Nat) (w : World) (p n : Nat) (d : Sd) (e : Ending) (w' : World) : Prop :=
  ∃ τ' hp' pl', Sr B τ' w' p n { d with hp := hp', pl := pl' } ∧ Stp τ τ' w w' ∧ QOk n hp' pl' ∧ (∀ u ∈ hp', u ∈ d.hp) ∧
    ((e = .returned (.int .i32 (-1)) ∧ ∀ u ∈ d.hp, d.wo[2 * u]? ≠ some 0) ∨ ∃ v : Nat, e = .returned (.int .i32 (v : Int)) ∧ v ∈ d.hp ∧ d.wo[2 * v]? = some 0 ∧ ∀ u ∈ d.hp, d.wo[2 * u]? = some 0 → u = v ∨ u ∈ hp')
section
variable {B : Nat} {τ : Nat → Nat} {w : World} {p n : Nat} {d : Sd}
set_option maxHeartbeats 1600000 in
theorem pick_any (h : Sr B τ w p n d) (L : Len n d) (hq : QOk n d.hp d.pl) :
    Calls Tryz.prog 66 #[ptr p] w (PickPost B τ w p n d) := by
  have HL := Lib.hid L
  have hn := L.nb
  have H0 : Hid (Sr B τ w p n { d with hp := d.hp, pl := d.pl } ∧ Stp τ τ w w ∧ QOk n d.hp d.pl) := ⟨h, Stp.refl _ _, hq⟩
  clear h L hq
  go_enter Tryz.func66, Tryz.ntmps66
  go_wp2_with fail
  go_loopg [] d.hp.length (fun gg wr => ∃ τ' hp' pl', Hid (Sr B τ' wr p n { d with hp := hp', pl := pl' } ∧ Stp τ τ' w wr ∧ QOk n hp' pl') ∧ hp'.length ≤ gg ∧ Hid ((∀ u ∈ hp', u ∈ d.hp) ∧ ∀ u ∈ d.hp, d.wo[2 * u]? = some 0 → u ∈ hp'))
  case atStart => exact ⟨τ, d.hp, d.pl, H0.out, Nat.le_refl _, fun u h => h, fun u h _ => h⟩
  case round =>
    obtain ⟨τ', hp', pl', R, hgk, HM⟩ := hrel
    clear H0
    by_cases h0 : hp'.length = 0
    · have CT := Lib.hid (qtake_none R.out.1 h0)
      have HE : Hid (PickPost B τ w p n d (.returned (.int .i32 (-1))) wr) := ⟨τ', hp', pl', R.out.1, R.out.2.1, R.out.2.2, HM.out.1, .inl ⟨rfl, fun u hu e => by
        have := HM.out.2 u hu e
        rw [List.eq_nil_of_length_eq_zero h0] at this; cases this⟩⟩
      clear h0
      go_wp2_with fail
      (with_reducible refine CT.out.mono ?_)
      rintro e we ⟨rfl, rfl⟩
      go_wp2_with fail
      go_ret
      exact HE.out
    · obtain ⟨v, hv⟩ : ∃ v, hp'[0]? = some v := ⟨_, List.getElem?_eq_getElem (by omega)⟩
      have CT := Lib.hid (qtake_any R.out.1 R.out.2.2 hn HL.out.sc hv)
      have hvm := List.mem_of_getElem? hv
      have hvn := (R.out.2.2.at_ 0 v hv).1
      have HV := Lib.hid hvm
      clear h0 hv hvm
      go_wp2_with fail
      (with_reducible refine CT.out.mono ?_)
      rintro e w2 ⟨rfl, τ2, hp2, pl2, q1, q2, q3, q4⟩
      have R2 : Hid (Sr B τ2 w2 p n { d with hp := hp2, pl := pl2 } ∧ Stp τ τ2 w w2 ∧ QOk n hp2 pl2) := ⟨q1, R.out.2.1.trans q2, q3⟩
      have hlen : hp2.length < hp'.length := by
        have := nodup_sub (v :: hp2) hp' (List.nodup_cons.2 ⟨fun h => ((q4 v).1 h).2 rfl, q3.nodup⟩) fun z hz => by
          rcases List.mem_cons.1 hz with rfl | hz
          · exact HV.out
          · exact ((q4 z).1 hz).1
        simp at this; omega
      have HQ := Lib.hid q4
      clear q1 q2 q3 q4 CT
      obtain ⟨g, c, a⟩ := R2.out.1.at_wo (by show 0 < d.wo.length; rw [HL.out.wo]; omega)
      obtain ⟨y, hy⟩ : ∃ y, d.wo[2 * v]? = some y := ⟨_, List.getElem?_eq_getElem (by rw [HL.out.wo]; omega)⟩
      have f2 := a.len_wo.1
      have l2 := a.len_wo.2
      have k2 := a.cap
      have x2 := a.wo hy
      have z2 := a.lt
      have zp := R2.out.1.plt
      have HY := Lib.hid hy
      have hvw : 2 * v < d.wo.length := by rw [HL.out.wo]; omega
      have hw : IntKind.i32.wrap (2 * (v : Int)) = ((2 * v : Nat) : Int) := by rw [IntKind.wrap_i32]; omega
      have v1 : (0 : Int) ≤ ((2 * v : Nat) : Int) := by omega
      have v2 : ((2 * v : Nat) : Int) < (d.wo.length : Int) := by omega
      have v3 : ((v : Int) == -1) = false := beq_eq_false_iff_ne.2 (by omega)
      have v4 : ¬ (v : Int) = -1 := by omega
      clear a hy
      by_cases hy0 : y = 0
      · subst hy0
        have HE : Hid (PickPost B τ w p n d (.returned (.int .i32 (v : Int))) w2) := ⟨τ2, hp2, pl2, R2.out.1, R2.out.2.1, R2.out.2.2, fun u hu => HM.out.1 u ((HQ.out u).1 hu).1, .inr ⟨v, rfl, HM.out.1 v HV.out, HY.out, fun u hu e => by
          by_cases he : u = v
          · exact .inl he
          · exact .inr ((HQ.out u).2 ⟨HM.out.2 u hu e, he⟩)⟩⟩
        go_wp2_with fail
        go_ret
        exact HE.out
      · have HM2 : Hid ((∀ u ∈ hp2, u ∈ d.hp) ∧ ∀ u ∈ d.hp, d.wo[2 * u]? = some 0 → u ∈ hp2) := ⟨fun u hu => HM.out.1 u ((HQ.out u).1 hu).1, fun u hu e => (HQ.out u).2 ⟨HM.out.2 u hu e, fun he => by
          subst he
          rw [HY.out] at e; injection e with e; exact hy0 e⟩⟩
        have y1 : (y == 0) = false := beq_eq_false_iff_ne.2 hy0
        go_wp2_with fail
        go_roundg (hp2.length)
        case measure => omega
        case rel => exact ⟨τ2, hp2, pl2, R2.out, Nat.le_refl _, HM2.out⟩
end
end Go.Proofs.YtpmdnbdmocdngaaGreat
