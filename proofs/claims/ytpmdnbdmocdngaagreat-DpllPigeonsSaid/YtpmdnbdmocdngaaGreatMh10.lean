/-
  Parts of the proof, joined: DpllB4, DpllI.
-/
import Derived.Test.YtpmdnbdmocdngaaGreatMh09

namespace Go.Proofs.YtpmdnbdmocdngaaGreat
open Go.ChangeShapes Go.WideShapes Go.ChangeAt Go.RowKit
set_option linter.unusedVariables false
set_option linter.unusedSimpArgs false

/-- Literals that are open again. -/
def unset (ls : List Nat) (wo : List Int) : List Int := ls.foldr (fun l wo => (wo.set l 0).set (oth l) 0) wo
theorem unset_len (ls : List Nat) (wo : List Int) : (unset ls wo).length = wo.length := by
  induction ls with
  | nil => rfl
  | cons l ls ih => show (((unset ls wo).set l 0).set (oth l) 0).length = _; rw [List.length_set, List.length_set, ih]
theorem unset_drop {tr : List Nat} {i l : Nat} (h : tr[i]? = some l) (wo : List Int) : unset (tr.drop i) wo = ((unset (tr.drop (i + 1)) wo).set l 0).set (oth l) 0 := by
  obtain ⟨hi, e⟩ := List.getElem?_eq_some_iff.1 h
  rw [List.drop_eq_getElem_cons hi, e]; rfl
/-- Each number's favourite is one of its own. -/
def Likes (n : Nat) (lk : List Nat) : Prop := ∀ v, v < n → ∃ l, lk[v]? = some l ∧ l / 2 = v
theorem Likes.set {n : Nat} {lk : List Nat} (h : Likes n lk) (hl : lk.length = n) (l : Nat) : Likes n (lk.set (l / 2) l) := fun v hv => by
  by_cases e : l / 2 = v
  · exact ⟨l, by rw [← e]; exact List.getElem?_set_self (by omega), e⟩
  · rw [List.getElem?_set_ne e]; exact h v hv
section
variable {B : Nat} {τ : Nat → Nat} {w : World} {p n : Nat} {d : Sd} {g c : Nat}
/-- Two cells of one row are written. -/
theorem Sr.put_wo2 (h : Sr B τ w p n d) (a : At τ w p 2 137 (z8 d.wo) g c) {l l' : Nat} (hl : l < d.wo.length) (hl' : l' < d.wo.length) (x y : Int) :
    Sr B τ ((w.setCell ⟨g, l, none⟩ (.int .i8 x)).setCell ⟨g, l', none⟩ (.int .i8 y)) p n { d with wo := (d.wo.set l x).set l' y } ∧ Stp τ τ w ((w.setCell ⟨g, l, none⟩ (.int .i8 x)).setCell ⟨g, l', none⟩ (.int .i8 y)) := by
  have s1 := h.put_wo a hl x
  have s2 := s1.1.put_wo (g := g) (cap := c) (i := l') (by
    obtain ⟨g', c', a'⟩ := s1.1.at_wo (by show 0 < (d.wo.set l x).length; rw [List.length_set]; omega)
    have e := a'.head
    rw [(World.cell?_of_block (set_other (p := ⟨g, l, none⟩) a.ne.symm)).trans a.head] at e
    injection e with e; injection e with e _ e3; injection e with e; injection e with e
    subst e; subst e3; exact a') (by show l' < (d.wo.set l x).length; rw [List.length_set]; exact hl') y
  exact ⟨s2.1, s1.2.trans s2.2⟩
structure TbR (B : Nat) (τ : Nat → Nat) (w : World) (p n : Nat) (d : Sd) (wr : World) (i : Nat) (τ' : Nat → Nat) (lk' hp' : List Nat) (pl' : List Int) : Prop where
  sr : Sr B τ' wr p n { d with wo := unset (d.tr.drop i) d.wo, lk := lk', hp := hp', pl := pl' }
  st : Stp τ τ' w wr
  q : QOk n hp' pl'
  lk : Likes n lk'
  ll : lk'.length = n
  m : ∀ u, u ∈ hp' ↔ u ∈ d.hp ∨ ∃ l ∈ d.tr.drop i, l / 2 = u
def TbPost (B : Nat) (τ : Nat → Nat) (w : World) (p n : Nat) (d : Sd) (m fr : Nat) (w' : World) : Prop :=
  ∃ τ' lk' hp' pl', Sr B τ' w' p n { d with wo := unset (d.tr.drop fr) d.wo, lk := lk', hp := hp', pl := pl', tr := d.tr.take fr, ma := d.ma.take m, nx := fr } ∧ Stp τ τ' w w' ∧ QOk n hp' pl' ∧ Likes n lk' ∧ lk'.length = n ∧ ∀ u, u ∈ hp' ↔ u ∈ d.hp ∨ ∃ l ∈ d.tr.drop fr, l / 2 = u
theorem back_none (h : Sr B τ w p n d) (L : Len n d) {m : Nat} (hm : m = d.ma.length) :
    Calls Tryz.prog 98 #[ptr p, .int .i64 (m : Int)] w fun e w' => e = .returned (.tuple #[]) ∧ w = w' := by
  subst hm
  obtain ⟨A, cap, f4, _⟩ := h.head_ma
  have zp := h.plt
  clear h L
  go_enter Tryz.func98, Tryz.ntmps98
  go_wp2_with fail
  refine bodyPost_ret (results_none rfl _ _ _) rfl ?_
  exact ⟨rfl, rfl⟩
set_option maxHeartbeats 3200000 in
theorem back_any (h : Sr B τ w p n d) (L : Len n d) (hq : QOk n d.hp d.pl) (hlk : Likes n d.lk) (htr : ∀ l ∈ d.tr, l < 2 * n) {m fr : Nat} (hm : d.ma[m]? = some fr) (hf : fr < d.tr.length) :
    Calls Tryz.prog 98 #[ptr p, .int .i64 (m : Int)] w fun e w' => e = .returned (.tuple #[]) ∧ TbPost B τ w p n d m fr w' := by
  have HL := Lib.hid L
  have hn := L.nb
  have HTR := Lib.hid htr
  have hml := (List.getElem?_eq_some_iff.1 hm).1
  have hmb : d.ma.length ≤ 65536 := by have := L.ma; omega
  have htb : d.tr.length ≤ 65536 := by have := L.tr; omega
  obtain ⟨g4, c4, a4⟩ := h.at_ma (by omega)
  have f4 := a4.len_ma.1
  have l4 := a4.len_ma.2
  have k4 := a4.cap
  have x4 := a4.ma hm
  have z4 := a4.lt
  have zp := h.plt
  obtain ⟨g3, c3, a3⟩ := h.at_tr (by omega)
  have f3 := a3.len_tr.1
  have hne : ¬ (m : Int) = (d.ma.length : Int) := by omega
  have hnb : ((m : Int) == (d.ma.length : Int)) = false := beq_eq_false_iff_ne.2 hne
  have hnc : (m == d.ma.length) = false := beq_eq_false_iff_ne.2 (by omega)
  have m1 : (0 : Int) ≤ (m : Int) := by omega
  have m2 : (m : Int) < (d.ma.length : Int) := by omega
  have hw1 : IntKind.i64.wrap ((d.tr.length : Int) - 1) = (d.tr.length : Int) - 1 := IntWalk.i64_in _ (by omega)
  have H0 : Hid (TbR B τ w p n d w d.tr.length τ d.lk d.hp d.pl) := ⟨by rw [List.drop_length]; exact h, Stp.refl _ _, hq, hlk, L.lk, fun u => by simp⟩
  have HM := Lib.hid hm
  clear h L hq hlk htr a4 a3 hm
  go_enter Tryz.func98, Tryz.ntmps98
  go_wp2_with fail
  go_loopw [5] (fun iv wr => ∃ (i : Nat) (τ' : Nat → Nat) (lk' hp' : List Nat) (pl' : List Int), fr ≤ i ∧ i ≤ d.tr.length ∧ iv = .int .i64 ((i : Int) - 1) ∧ TbR B τ w p n d wr i τ' lk' hp' pl') (fun iv _ => (intOf iv + 1).toNat)
  case atStart => exact ⟨d.tr.length, τ, d.lk, d.hp, d.pl, by omega, Nat.le_refl _, rfl, H0.out⟩
  case round =>
    obtain ⟨i', τ', lk', hp', pl', hfi, hii, rfl, hrel⟩ := hrel
    have R := Lib.hid hrel
    clear hrel H0 f4 l4 k4 x4 z4 zp f3
    by_cases hgo : fr < i'
    · obtain ⟨i, rfl⟩ : ∃ i, i' = i + 1 := ⟨i' - 1, by omega⟩
      have hj1 : ((i + 1 : Nat) : Int) - 1 = (i : Int) := by omega
      rw [hj1]
      have hil : i < d.tr.length := by omega
      obtain ⟨l, hl⟩ : ∃ l, d.tr[i]? = some l := ⟨_, List.getElem?_eq_getElem hil⟩
      have hl2 := HTR.out l (List.mem_of_getElem? hl)
      have hol := oth_lt hl2
      have HU := Lib.hid (unset_drop hl d.wo)
      have HD := Lib.hid (show ∀ u, (∃ x ∈ d.tr.drop i, x / 2 = u) ↔ u = l / 2 ∨ ∃ x ∈ d.tr.drop (i + 1), x / 2 = u from fun u => by
        obtain ⟨_, e⟩ := List.getElem?_eq_some_iff.1 hl
        rw [List.drop_eq_getElem_cons hil, e]
        simp only [List.mem_cons]
        constructor
        · rintro ⟨x, rfl | hx, rfl⟩
          · exact .inl rfl
          · exact .inr ⟨x, hx, rfl⟩
        · rintro (rfl | ⟨x, hx, rfl⟩)
          · exact ⟨l, .inl rfl, rfl⟩
          · exact ⟨x, .inr hx, rfl⟩)
      obtain ⟨g3, c3, a3⟩ := R.out.sr.at_tr (by show 0 < d.tr.length; omega)
      have f3 := a3.len_tr.1
      have l3 := a3.len_tr.2
      have k3 := a3.cap
      have x3 := a3.tr hl
      have z3 := a3.lt
      have zp := R.out.sr.plt
      obtain ⟨uw, hu⟩ : ∃ uw, unset (d.tr.drop (i + 1)) d.wo = uw := ⟨_, rfl⟩
      have hul : uw.length = 2 * n := by rw [← hu, unset_len]; exact HL.out.wo
      have SR := Lib.hid (show Sr B τ' wr p n { d with wo := uw, lk := lk', hp := hp', pl := pl' } by rw [← hu]; exact R.out.sr)
      rw [hu] at HU
      obtain ⟨g, c, a⟩ := SR.out.at_wo (by show 0 < uw.length; omega)
      obtain ⟨y1, hy1⟩ : ∃ y, uw[l]? = some y := ⟨_, List.getElem?_eq_getElem (by omega)⟩
      obtain ⟨y2, hy2⟩ : ∃ y, uw[oth l]? = some y := ⟨_, List.getElem?_eq_getElem (by omega)⟩
      have f2 := a.len_wo.1
      have l2 := a.len_wo.2
      have k2 := a.cap
      have x1 := a.wo hy1
      have x2 := a.wo hy2
      have fr2 := a.free
      have z2 := a.lt
      have n2 := a.ne
      have HA := Lib.hid (SR.out.put_wo2 a (l := l) (l' := oth l) (by show l < uw.length; omega) (by show oth l < uw.length; omega) 0 0)
      obtain ⟨N, hN⟩ : ∃ N, uw.length = N := ⟨_, rfl⟩
      rw [hN] at f2 l2
      have b1 : (0 : Int) ≤ (l : Int) := by omega
      have b2 : (l : Int) < (N : Int) := by omega
      have b3 : (0 : Int) ≤ (oth l : Int) := by omega
      have b4 : (oth l : Int) < (N : Int) := by omega
      have KA : ∀ (W : World) (o : Nat) (u : Value), W.cell? ⟨p, 2, none⟩ = some (.slice (some ⟨g, 0, none⟩) N c) → (W.setCell ⟨g, o, none⟩ u).cell? ⟨p, 2, none⟩ = some (.slice (some ⟨g, 0, none⟩) N c) := fun W o u h => (World.cell?_of_block (set_other (p := ⟨g, o, none⟩) n2.symm)).trans h
      have CO := Lib.hid (fun W => loth_any l W (by omega))
      have CN := Lib.hid (fun W => lnum_any l W (by omega))
      have hne2 := oth_ne l
      have hvn : l / 2 < n := by omega
      have hgo' : (fr : Int) ≤ (i : Int) := by omega
      have i1 : (0 : Int) ≤ (i : Int) := by omega
      have i2 : (i : Int) < (d.tr.length : Int) := by omega
      have hob : oth l < 131073 := by omega
      clear a a3 hy1 hy2 hl hu hN hul
      go_wp2_with fail
      go_region_held3 (fun w' => w'.cell? ⟨p, 2, none⟩ = some (.slice (some ⟨g, 0, none⟩) N c)) (first | go_keep | (exact KA _ _ _ (by assumption))) ((go_at_call 91; (with_reducible refine (CO.out _).mono ?_); rintro e we ⟨rfl, rfl⟩))
      have R1 := Lib.hid (HA.out.1.alike (W := ((wr.setCell ⟨g, l, none⟩ (.int .i8 0)).setCell ⟨g, oth l, none⟩ (.int .i8 0)).drew) rfl rfl rfl rfl)
      have S1 := Lib.hid (R.out.st.trans (HA.out.2.alike (W := ((wr.setCell ⟨g, l, none⟩ (.int .i8 0)).setCell ⟨g, oth l, none⟩ (.int .i8 0)).drew) rfl rfl rfl rfl))
      generalize ((wr.setCell ⟨g, l, none⟩ (.int .i8 0)).setCell ⟨g, oth l, none⟩ (.int .i8 0)).drew = W1 at *
      clear HA KA f2 l2 k2 x1 x2 fr2 z2 n2 f3 l3 k3 x3 z3 SR zp
      have HLL := Lib.hid R.out.ll
      have HLI := Lib.hid (R.out.lk.set R.out.ll l)
      have HQO := Lib.hid R.out.q
      have HMM := Lib.hid R.out.m
      clear R
      obtain ⟨g8, c8, a8⟩ := R1.out.at_lk (by show 0 < lk'.length; rw [HLL.out]; omega)
      obtain ⟨y8, hy8⟩ : ∃ y, lk'[l / 2]? = some y := ⟨_, List.getElem?_eq_getElem (by rw [HLL.out]; exact hvn)⟩
      have f8 := a8.len_lk.1
      have l8 := a8.len_lk.2
      have k8 := a8.cap
      have x8 := a8.lk hy8
      have r8 := a8.free
      have z8 := a8.lt
      have n8 := a8.ne
      have zp := R1.out.plt
      have HB := Lib.hid (R1.out.put_lk a8 (i := l / 2) (by show l / 2 < lk'.length; rw [HLL.out]; exact hvn) l)
      have e8 : l / 2 < lk'.length := by rw [HLL.out]; exact hvn
      obtain ⟨v, hv2⟩ : ∃ v, l / 2 = v := ⟨_, rfl⟩
      rw [hv2] at CN HB hvn x8 e8 HLI HD
      have v1 : (0 : Int) ≤ (v : Int) := by omega
      have v2 : (v : Int) < (lk'.length : Int) := by omega
      have K8 : ∀ (W : World) (o : Nat) (u : Value), W.cell? ⟨p, 8, none⟩ = some (.slice (some ⟨g8, 0, none⟩) lk'.length c8) → (W.setCell ⟨g8, o, none⟩ u).cell? ⟨p, 8, none⟩ = some (.slice (some ⟨g8, 0, none⟩) lk'.length c8) := fun W o u h => (World.cell?_of_block (set_other (p := ⟨g8, o, none⟩) n8.symm)).trans h
      clear a8 hy8 hv2
      go_wp2_with fail
      go_region_held3 (fun w' => w'.cell? ⟨p, 8, none⟩ = some (.slice (some ⟨g8, 0, none⟩) lk'.length c8)) (first | go_keep | (exact K8 _ _ _ (by assumption))) ((go_at_call 90; (with_reducible refine (CN.out _).mono ?_); rintro e we ⟨rfl, rfl⟩))
      have R2 := Lib.hid (HB.out.1.alike (W := (W1.setCell ⟨g8, v, none⟩ (.int .i32 (l : Int))).drew) rfl rfl rfl rfl)
      have S2 := Lib.hid (S1.out.trans (HB.out.2.alike (W := (W1.setCell ⟨g8, v, none⟩ (.int .i32 (l : Int))).drew) rfl rfl rfl rfl))
      generalize (W1.setCell ⟨g8, v, none⟩ (.int .i32 (l : Int))).drew = W2 at *
      clear HB K8 f8 l8 k8 x8 r8 z8 n8 S1 R1 zp
      have zp := R2.out.plt
      have f12 : W2.cell? ⟨p, 12, none⟩ = some (.int .i64 d.ra) := R2.out.get_ra
      have CA := Lib.hid (fun (W : World) (r : Sr B τ' W p n { d with wo := (uw.set l 0).set (oth l) 0, lk := lk'.set v l, hp := hp', pl := pl' }) => qadd_any r (by exact HQO.out) hn HL.out.sc hvn)
      go_wp2_with fail
      go_region_held3 (fun w' => w'.cell? ⟨p, 12, none⟩ = some (.int .i64 d.ra)) (go_keep) (first
        | (go_at_call 90; (with_reducible refine (CN.out _).mono ?_); rintro e we ⟨rfl, rfl⟩)
        | (go_at_call 89; (with_reducible refine (CA.out _ (by exact R2.out.alike rfl rfl rfl rfl)).mono ?_); rintro e we ⟨rfl, τ2, hp2, pl2, q1, q2, q3, q4⟩; have R3 := Lib.hid q1; have S3 := Lib.hid ((S2.out.alike (W := W2.drew) rfl rfl rfl rfl).trans q2); have Q3 := Lib.hid q3; have M3 := Lib.hid q4; have f12 : we.cell? ⟨p, 12, none⟩ = some (.int .i64 d.ra) := R3.out.get_ra; have zp := R3.out.plt; clear q1 q2 q3 q4))
      have HN : Hid (TbR B τ w p n d we i τ2 (lk'.set v l) hp2 pl2) := ⟨by rw [HU.out]; exact R3.out, S3.out, Q3.out, HLI.out, by rw [List.length_set]; exact HLL.out, fun u => by
        rw [M3.out u, HMM.out u, HD.out u]
        constructor
        · rintro (h | h | h)
          · exact .inr (.inl h)
          · exact .inl h
          · exact .inr (.inr h)
        · rintro (h | h | h)
          · exact .inr (.inl h)
          · exact .inl h
          · exact .inr (.inr h)⟩
      clear R3 S3 Q3 M3 R2 S2
      go_wp2_with fail
      go_roundw
      case rel => exact ⟨i, τ2, _, hp2, pl2, by omega, by omega, by go_num, HN.out⟩
      case measure => simp [intOf]
    · obtain rfl : i' = fr := by omega
      have hstop : ((i' : Int) - 1) < (i' : Int) := by omega
      obtain ⟨g4, c4, a4⟩ := R.out.sr.at_ma (by show 0 < d.ma.length; omega)
      obtain ⟨g3, c3, a3⟩ := R.out.sr.at_tr (by show 0 < d.tr.length; omega)
      have f3 := a3.len_tr.1
      have l3 : d.tr.length ≤ c3 := a3.len_tr.2
      have k3 := a3.cap
      have f4 := a4.len_ma.1
      have l4 : d.ma.length ≤ c4 := a4.len_ma.2
      have k4 := a4.cap
      have f5 : wr.cell? ⟨p, 5, none⟩ = some (.int .i64 (d.nx : Int)) := R.out.sr.get_nx
      have zp := R.out.sr.plt
      have rp := R.out.sr.pfree
      have t1 := R.out.sr.cut_tr (m := i') (cap := c3) f3 (by show i' ≤ d.tr.length; omega) (fun e => by cases e)
      have t2 := t1.1.cut_ma (m := m) (cap := c4) (A := some ⟨g4, 0, none⟩) (m0 := d.ma.length) ((World.cell?_setCell_other wr ⟨p, 3, none⟩ ⟨p, 4, none⟩ _ (by intro e; injection e with _ e; omega)).trans f4) (by show m ≤ d.ma.length; omega) (fun e => by cases e)
      have t3 := t2.1.set_nx i'
      have HT := Lib.hid (And.intro t3.1 ((t1.2.trans t2.2).trans t3.2))
      have hb1 : (0 : Int) ≤ (i' : Int) := by omega
      have hb2 : (i' : Int) ≤ (c3 : Int) := by omega
      have hb3 : (m : Int) ≤ (c4 : Int) := by omega
      clear a4 a3 t1 t2 t3
      go_wp2_with fail
      go_region
      have HE : Hid (TbPost B τ w p n d m i' _) := ⟨τ', lk', hp', pl', HT.out.1.alike (W := (((wr.setCell ⟨p, 3, none⟩ (.slice (some ⟨g3, 0, none⟩) i' c3)).setCell ⟨p, 4, none⟩ (.slice (some ⟨g4, 0, none⟩) m c4)).setCell ⟨p, 5, none⟩ (.int .i64 (i' : Int))).drew) rfl rfl rfl rfl, R.out.st.trans (HT.out.2.alike rfl rfl rfl rfl), R.out.q, R.out.lk, R.out.ll, R.out.m⟩
      go_end0
      exact ⟨rfl, HE.out⟩
end
end Go.Proofs.YtpmdnbdmocdngaaGreat

namespace Go.Proofs.YtpmdnbdmocdngaaGreat
open Go.RowKit
set_option linter.unusedVariables false
set_option linter.unusedSimpArgs false

def wv (wo : List Int) (q : Nat) : Int := wo.getD q 0
def dpt (dp : List Nat) (q : Nat) : Nat := dp.getD (q / 2) 0
theorem wv_of {wo : List Int} {q : Nat} {y : Int} (h : wo[q]? = some y) : wv wo q = y := by unfold wv; rw [List.getD_eq_getElem?_getD, h]; rfl
theorem dpt_of {dp : List Nat} {q y : Nat} (h : dp[q / 2]? = some y) : dpt dp q = y := by unfold dpt; rw [List.getD_eq_getElem?_getD, h]; rfl
theorem wv_at {wo : List Int} {q : Nat} (h : q < wo.length) : wo[q]? = some (wv wo q) := by unfold wv; rw [List.getD_eq_getElem?_getD, List.getElem?_eq_getElem h]; rfl
structure Wo (n : Nat) (wo : List Int) : Prop where
  len : wo.length = 2 * n
  opp : ∀ q, q < 2 * n → wv wo (oth q) = - wv wo q
  rng : ∀ q, wv wo q = -1 ∨ wv wo q = 0 ∨ wv wo q = 1
/-- How many decisions there were when a place of the trail came. -/
def lev (ma : List Nat) (j : Nat) : Nat := (ma.filter fun m => decide (m ≤ j)).length
theorem lev_le (ma : List Nat) (j : Nat) : lev ma j ≤ ma.length := List.length_filter_le _ _
theorem lev_all {ma : List Nat} {j : Nat} (h : ∀ m ∈ ma, m ≤ j) : lev ma j = ma.length := by
  unfold lev
  rw [List.filter_eq_self.2 fun m hm => decide_eq_true (h m hm)]
structure Tl (n : Nat) (K0 : Nat → Prop) (d : Sd) : Prop where
  w : Wo n d.wo
  tl : ∀ q ∈ d.tr, q < 2 * n
  nd : (d.tr.map (· / 2)).Nodup
  one : ∀ q, q < 2 * n → (wv d.wo q = 1 ↔ q ∈ d.tr ∨ K0 q)
  k0 : ∀ q ∈ d.tr, ¬ K0 q ∧ ¬ K0 (oth q)
  ma : d.ma.Pairwise (· < ·)
  mb : ∀ m ∈ d.ma, m < d.tr.length
  dp : ∀ j q, d.tr[j]? = some q → d.dp[q / 2]? = some (lev d.ma j)
  nx : d.nx ≤ d.tr.length
  mx : ∀ m ∈ d.ma, m ≤ d.nx
/-- Claims as they may be. -/
structure Cs (n : Nat) (K0 : Nat → Prop) (cls : List Cl) : Prop where
  len : ∀ (k : Nat) c, cls[k]? = some c → 2 ≤ c.ls.length
  nd : ∀ (k : Nat) c, cls[k]? = some c → c.ls.Nodup
  lt : ∀ (k : Nat) c, cls[k]? = some c → ∀ q ∈ c.ls, q < 2 * n ∧ ¬ K0 q ∧ ¬ K0 (oth q)
  fr : ∀ (k : Nat) c, cls[k]? = some c → ∃ f : Nat, c.fr = (f : Int) ∧ 2 ≤ f ∧ f ≤ c.ls.length
/-- Why the places of the trail came. -/
def Wy (d : Sd) : Prop := ∀ j q, d.tr[j]? = some q → 1 ≤ lev d.ma j → (j ∈ d.ma ∧ d.wy[q / 2]? = some (-1)) ∨ (j ∉ d.ma ∧ ∃ (k : Nat) (c : Cl), d.wy[q / 2]? = some (k : Int) ∧ d.cls[k]? = some c ∧ q ∈ c.ls ∧ ∀ y ∈ c.ls, y ≠ q → ∃ i, i < j ∧ d.tr[i]? = some (oth y))
/-- What is followed has been followed, but for E. -/
def Pr (d : Sd) (E : Nat → Nat → Prop) : Prop := ∀ (k : Nat) c i x, d.cls[k]? = some c → i < 2 → c.ls[i]? = some x → (∃ j, j < d.nx ∧ d.tr[j]? = some (oth x)) → E k x ∨ ∃ y ∈ c.ls, wv d.wo y = 1 ∧ dpt d.dp y ≤ dpt d.dp x
/-- A literal under truths of the numbers. -/
def lt_ (m : Nat → Bool) (q : Nat) : Bool := if q % 2 = 0 then m (q / 2) else !m (q / 2)
theorem lt_oth (m : Nat → Bool) (q : Nat) : lt_ m (oth q) = !lt_ m q := by
  unfold lt_
  rw [oth_half]
  unfold oth
  by_cases h : q % 2 = 0
  · rw [if_pos h, if_neg (by omega), if_pos h]
  · rw [if_neg h, if_pos (by omega), if_neg h, Bool.not_not]
def Sem (Mo : (Nat → Bool) → Prop) (d : Sd) : Prop := ∀ m, Mo m → (∀ (k : Nat) c, d.cls[k]? = some c → ∃ q ∈ c.ls, lt_ m q = true) ∧ ∀ j q, d.tr[j]? = some q → lev d.ma j = 0 → lt_ m q = true
theorem getD_set {α : Type} (l : List α) (i j : Nat) (x z : α) : (l.set i x).getD j z = if i = j ∧ i < l.length then x else l.getD j z := by
  rw [List.getD_eq_getElem?_getD, List.getD_eq_getElem?_getD, List.getElem?_set]
  by_cases e : i = j
  · subst e
    by_cases hl : i < l.length
    · simp [hl]
    · simp [hl, List.getElem?_eq_none (Nat.le_of_not_lt hl)]
  · simp [e]
theorem wv_held {n : Nat} {wo : List Int} (h : Wo n wo) {l : Nat} (hl : l < 2 * n) (q : Nat) : wv ((wo.set l 1).set (oth l) (-1)) q = if q = oth l then -1 else if q = l then 1 else wv wo q := by
  have ho := oth_lt hl
  unfold wv
  rw [getD_set, getD_set, List.length_set, h.len]
  by_cases e1 : q = oth l
  · rw [if_pos e1, if_pos ⟨e1.symm, ho⟩]
  · rw [if_neg e1, if_neg (fun k => e1 k.1.symm)]
    by_cases e2 : q = l
    · rw [if_pos e2, if_pos ⟨e2.symm, hl⟩]
    · rw [if_neg e2, if_neg (fun k => e2 k.1.symm)]
theorem Wo.held {n : Nat} {wo : List Int} (h : Wo n wo) {l : Nat} (hl : l < 2 * n) : Wo n ((wo.set l 1).set (oth l) (-1)) := by
  have hne := oth_ne l
  have hoo := oth_oth l
  refine ⟨by rw [List.length_set, List.length_set]; exact h.len, fun q hq => ?_, fun q => ?_⟩
  · rw [wv_held h hl, wv_held h hl]
    by_cases e1 : q = oth l
    · subst e1
      rw [hoo, if_neg (fun e => hne e.symm), if_pos rfl, if_pos rfl]; rfl
    · by_cases e2 : q = l
      · subst e2; rw [if_pos rfl, if_neg e1, if_pos rfl]
      · have e3 : oth q ≠ oth l := fun e => e2 (by rw [← oth_oth q, e, oth_oth])
        have e4 : oth q ≠ l := fun e => e1 (by rw [← oth_oth q, e])
        rw [if_neg e3, if_neg e4, if_neg e1, if_neg e2]; exact h.opp q hq
  · rw [wv_held h hl]
    split
    · exact .inl rfl
    · split
      · exact .inr (.inr rfl)
      · exact h.rng q
section
variable {n : Nat} {K0 : Nat → Prop} {d : Sd} {q : Nat}
theorem Tl.open_ (h : Tl n K0 d) (hq : q < 2 * n) (h0 : wv d.wo q = 0) : q / 2 ∉ d.tr.map (· / 2) := fun hm => by
  obtain ⟨r, hr, e⟩ := List.mem_map.1 hm
  rcases half_eq (q := q) (r := r) e.symm with rfl | rfl
  · rw [(h.one r hq).2 (.inl hr)] at h0; cases h0
  · have h1 := (h.one (oth q) (oth_lt hq)).2 (.inl hr)
    rw [h.w.opp q hq, h0] at h1; cases h1
theorem Tl.len (h : Tl n K0 d) : d.tr.length ≤ n := by
  have := nodup_le n _ h.nd fun z hz => by
    obtain ⟨r, hr, e⟩ := List.mem_map.1 hz
    have := h.tl r hr
    have e : r / 2 = z := e
    omega
  rwa [List.length_map] at this
theorem Tl.lt (h : Tl n K0 d) (hq : q < 2 * n) (h0 : wv d.wo q = 0) : d.tr.length < n := by
  have := nodup_le n (q / 2 :: d.tr.map (· / 2)) (List.nodup_cons.2 ⟨h.open_ hq h0, h.nd⟩) fun z hz => by
    rcases List.mem_cons.1 hz with rfl | hz
    · omega
    · obtain ⟨r, hr, e⟩ := List.mem_map.1 hz
      have := h.tl r hr
      have e : r / 2 = z := e
      omega
  simp at this; omega
/-- The trail with one more that holds; ma may have one more mark already, at its end. -/
theorem Tl.held (h : Tl n K0 d) (hd : d.dp.length = n) (hq : q < 2 * n) (h0 : wv d.wo q = 0) (hk : ¬ K0 q ∧ ¬ K0 (oth q)) (k : Int) : Tl n K0 (d.held q k) := by
  have ho := oth_lt hq
  have hop := h.open_ hq h0
  have hmem : ∀ r, r ∈ (d.held q k).tr ↔ r ∈ d.tr ∨ r = q := fun r => by show r ∈ d.tr ++ [q] ↔ _; simp
  have hlast : ∀ m ∈ d.ma, m ≤ d.tr.length := fun m hm => Nat.le_of_lt (h.mb m hm)
  refine ⟨h.w.held hq, fun r hr => ?_, ?_, fun r hr => ?_, fun r hr => ?_, h.ma, fun m hm => ?_, fun j r hj => ?_, ?_, h.mx⟩
  · rcases (hmem r).1 hr with hr | rfl
    · exact h.tl r hr
    · exact hq
  · show ((d.tr ++ [q]).map (· / 2)).Nodup
    rw [List.map_append, List.nodup_append]
    exact ⟨h.nd, by simp, fun a ha b hb e => by
      have : b = q / 2 := by simpa using hb
      subst this; subst e; exact hop ha⟩
  · rw [hmem]
    show wv ((d.wo.set q 1).set (oth q) (-1)) r = 1 ↔ _
    rw [wv_held h.w hq]
    by_cases e1 : r = oth q
    · subst e1
      rw [if_pos rfl]
      refine ⟨fun e => (by cases e), ?_⟩
      rintro ((hm | e) | hm)
      · exact absurd (List.mem_map.2 ⟨oth q, hm, oth_half q⟩) hop
      · exact absurd e (oth_ne q)
      · exact absurd hm hk.2
    · rw [if_neg e1]
      by_cases e2 : r = q
      · subst e2; rw [if_pos rfl]; exact ⟨fun _ => .inl (.inr rfl), fun _ => rfl⟩
      · rw [if_neg e2, h.one r hr]
        constructor
        · rintro (a | a)
          · exact .inl (.inl a)
          · exact .inr a
        · rintro ((a | a) | a)
          · exact .inl a
          · exact absurd a e2
          · exact .inr a
  · rcases (hmem r).1 hr with hr | rfl
    · exact h.k0 r hr
    · exact hk
  · show m < (d.tr ++ [q]).length
    rw [List.length_append]; have := h.mb m hm; omega
  · show (d.dp.set (q / 2) d.ma.length)[r / 2]? = some (lev d.ma j)
    have hj : (d.tr ++ [q])[j]? = some r := hj
    by_cases hlt : j < d.tr.length
    · rw [List.getElem?_append_left hlt] at hj
      rw [List.getElem?_set_ne (fun e => hop (by rw [e]; exact List.mem_map.2 ⟨r, List.mem_of_getElem? hj, rfl⟩))]
      exact h.dp j r hj
    · have := (List.getElem?_eq_some_iff.1 hj).1
      simp at this
      obtain rfl : j = d.tr.length := by omega
      simp at hj
      subst hj
      rw [List.getElem?_set_self (by rw [hd]; omega), lev_all hlast]
  · show d.nx ≤ (d.tr ++ [q]).length
    rw [List.length_append]; have := h.nx; omega
theorem dpt_held (h : Tl n K0 d) (hq : q < 2 * n) (h0 : wv d.wo q = 0) {x : Nat} (hx : x / 2 ≠ q / 2) (k : Int) : dpt (d.held q k).dp x = dpt d.dp x := by
  show (d.dp.set (q / 2) d.ma.length).getD (x / 2) 0 = d.dp.getD (x / 2) 0
  rw [getD_set, if_neg (fun e => hx e.1.symm)]
theorem Pr.held {E : Nat → Nat → Prop} (h : Pr d E) (t : Tl n K0 d) (hq : q < 2 * n) (h0 : wv d.wo q = 0) (k : Int) : Pr (d.held q k) E := by
  have hop := t.open_ hq h0
  intro k' c i x hk hi hx hj
  obtain ⟨j, hj1, hj2⟩ := hj
  have hj1 : j < d.nx := hj1
  have hj2 : (d.tr ++ [q])[j]? = some (oth x) := hj2
  rw [List.getElem?_append_left (by have := t.nx; omega)] at hj2
  have hxn : x / 2 ≠ q / 2 := fun e => hop (by rw [← e, ← oth_half x]; exact List.mem_map.2 ⟨oth x, List.mem_of_getElem? hj2, rfl⟩)
  rcases h k' c i x hk hi hx ⟨j, hj1, hj2⟩ with h1 | ⟨y, hy, h1, h2⟩
  · exact .inl h1
  · have hyn : y / 2 ≠ q / 2 := fun e => by
      rcases half_eq (q := q) (r := y) e.symm with rfl | rfl
      · rw [h0] at h1; cases h1
      · rw [t.w.opp q hq, h0] at h1; cases h1
    refine .inr ⟨y, hy, ?_, ?_⟩
    · show wv ((d.wo.set q 1).set (oth q) (-1)) y = 1
      rw [wv_held t.w hq, if_neg (fun e => hyn (by rw [e, oth_half])), if_neg (fun e => hyn (by rw [e]))]
      exact h1
    · rw [dpt_held t hq h0 hyn, dpt_held t hq h0 hxn]; exact h2
theorem Wy.held (h : Wy d) (t : Tl n K0 d) (hw : d.wy.length = n) (hq : q < 2 * n) (h0 : wv d.wo q = 0) {k : Nat} {c : Cl} (hk : d.cls[k]? = some c) (hc : q ∈ c.ls) (hoth : ∀ y ∈ c.ls, y ≠ q → oth y ∈ d.tr) : Wy (d.held q (k : Int)) := by
  have hop := t.open_ hq h0
  intro j r hj hl
  have hj : (d.tr ++ [q])[j]? = some r := hj
  have hl : 1 ≤ lev d.ma j := hl
  by_cases hlt : j < d.tr.length
  · rw [List.getElem?_append_left hlt] at hj
    have hr : r / 2 ≠ q / 2 := fun e => hop (by rw [← e]; exact List.mem_map.2 ⟨r, List.mem_of_getElem? hj, rfl⟩)
    have ew : (d.held q (k : Int)).wy[r / 2]? = d.wy[r / 2]? := by
      show (d.wy.set (q / 2) (k : Int))[r / 2]? = _
      rw [List.getElem?_set_ne (fun e => hr e.symm)]
    rw [ew]
    rcases h j r hj hl with h1 | ⟨h1, k', c', a, b, e, f⟩
    · exact .inl h1
    · refine .inr ⟨h1, k', c', a, b, e, fun y hy hne => ?_⟩
      obtain ⟨i, hi, hi2⟩ := f y hy hne
      exact ⟨i, hi, by show (d.tr ++ [q])[i]? = _; rw [List.getElem?_append_left (by omega)]; exact hi2⟩
  · have := (List.getElem?_eq_some_iff.1 hj).1
    simp at this
    obtain rfl : j = d.tr.length := by omega
    simp at hj
    subst hj
    refine .inr ⟨fun hm => ?_, k, c, ?_, hk, hc, fun y hy hne => ?_⟩
    · have hm : d.tr.length ∈ d.ma := hm
      have := t.mb _ hm; omega
    · show (d.wy.set (q / 2) (k : Int))[q / 2]? = _
      exact List.getElem?_set_self (by rw [hw]; omega)
    · obtain ⟨i, hi⟩ := List.getElem?_of_mem (hoth y hy hne)
      have hil := (List.getElem?_eq_some_iff.1 hi).1
      exact ⟨i, hil, by show (d.tr ++ [q])[i]? = _; rw [List.getElem?_append_left hil]; exact hi⟩
theorem Sem.held {Mo : (Nat → Bool) → Prop} (h : Sem Mo d) (t : Tl n K0 d) {k : Nat} {c : Cl} (hk : d.cls[k]? = some c) (hc : q ∈ c.ls) (hoth : ∀ y ∈ c.ls, y ≠ q → oth y ∈ d.tr) : Sem Mo (d.held q (k : Int)) := fun m hm => by
  obtain ⟨h1, h2⟩ := h m hm
  refine ⟨h1, fun j r hj hl => ?_⟩
  have hj : (d.tr ++ [q])[j]? = some r := hj
  have hl : lev d.ma j = 0 := hl
  by_cases hlt : j < d.tr.length
  · rw [List.getElem?_append_left hlt] at hj; exact h2 j r hj hl
  · have := (List.getElem?_eq_some_iff.1 hj).1
    simp at this
    obtain rfl : j = d.tr.length := by omega
    simp at hj
    subst hj
    have hma : d.ma = [] := by
      have := lev_all (ma := d.ma) (j := d.tr.length) fun m hm => Nat.le_of_lt (t.mb m hm)
      rw [hl] at this
      exact List.eq_nil_of_length_eq_zero this.symm
    obtain ⟨y, hy, hyt⟩ := h1 k c hk
    by_cases e : y = q
    · subst e; exact hyt
    · obtain ⟨i, hi⟩ := List.getElem?_of_mem (hoth y hy e)
      have := h2 i _ hi (by rw [hma]; rfl)
      rw [lt_oth, hyt] at this; cases this
end
end Go.Proofs.YtpmdnbdmocdngaaGreat
