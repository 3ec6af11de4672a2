/-
  The program's own tree: Move.
-/
import Derived.Test.YtlnobekjcengfaaTreeTl
import Derived.Test.YtlnobekjcengfaaTreeL
namespace Go.Proofs.Ytlnobekjcengfaa
open Go.ChangeShapes Go.WideShapes Go.ChangeAt Go.RowKit Go.Joins
set_option linter.unusedVariables false
set_option linter.unusedSimpArgs false

theorem mv_zero {l : List Itm} (ok : Ok l) {a b : List UInt8} (h : mvI l (spl a) (spl b) = 0) : nameB a = true ∧ nameB b = true ∧ ∃ i, look l a = some i := by
  unfold mvI at h
  rw [fn_path ok, pl_path ok] at h
  by_cases e0 : (findT l a).2.2 = 0
  · obtain ⟨hn, ha, i, hi, hf⟩ := find_zero e0
    rw [if_pos e0] at h
    cases hb : nameB b with
    | false =>
      rw [hb] at h
      split at h
      · cases h
      · simp at h
    | true => exact ⟨hn, rfl, i, hi⟩
  · rw [if_neg e0] at h; exact absurd h e0
theorem move_fin {V w3 w4 : World} {g b n n' : Nat} {l : List Itm} {nx : Int} {D : DataW Unit} {x y : List UInt8} {p q : Pr} {i : Itm} (h : MT V g (some b) ⟨l, nx⟩) (ok : Ok l) (hp : p = spl x) (hq : q = spl y) (hx : nameB x = true) (hy : nameB y = true) (hne : p ≠ q) (hi : look l x = some i) (hM : MpIs D l)
    (own3 : w3.ownsMap Try.prog tK eElem b n (D.put (nkl q) (entD i.n i.d))) (turn3 : V.mapTurned w3 b) (own4 : w4.ownsMap Try.prog tK eElem b n' ((D.put (nkl q) (entD i.n i.d)).del (nkl p))) (turn4 : w3.drew.mapTurned w4 b) :
    MT w4 g (some b) ⟨ren x y (l.eraseP (is y)), nx⟩ ∧ ChF (fun k => k = b) V w4 := by
  subst hp
  subst hq
  have hxy : x ≠ y := fun e => hne (by rw [e])
  have m1 := hM.put ok.nm hy i.n i.d
  have m2 := m1.del (fun j hj => by
    rcases List.mem_cons.1 hj with rfl | hj
    · exact hy
    · exact ok.nm j (List.mem_filter.1 hj).1) hx
  have nd : ((l.eraseP (is y)).map (·.p)).Nodup := by
    rw [erase_filter ok.nd]
    exact ok.nd.sublist (List.filter_sublist.map _)
  have hr := ren_perm nd ((look_erase_ne hxy).trans hi) y
  rw [List.filter_cons_of_pos (by simp [Ne.symm hxy])] at m2
  rw [erase_filter ok.nd] at hr
  rw [← erase_filter ok.nd] at hr m2
  have h3 := mt_turn h turn3 own3 m1
  have h4 := mt_turn (h3.on (Gw.refl _).drew) turn4 own4 (m2.perm hr.symm)
  exact ⟨h4, ((turn_chf turn3).trans (Gw.chf (F := fun k => k = b) (Gw.refl w3).drew) (fun j hj => .inl hj)).trans (turn_chf turn4) (fun j hj => .inl hj)⟩
set_option maxHeartbeats 4000000 in
theorem pmove_any {W : World} {g : Nat} {m : Option Nat} {s : St} (h : MT W g m s) (ok : Ok s.l) (hl8 : s.l.length ≤ 8) (x y : ByteArray) (hx : x.size ≤ 140737488351232) (hy : y.size ≤ 140737488351232) :
    Calls Try.prog 18 #[.pointer (some ⟨g, 0, none⟩), .string x, .string y] W fun e W' => e = .returned (mV (moveT s x.data.toList y.data.toList).1) ∧ MkP g m (moveT s x.data.toList y.data.toList).2 W W' := by
  have T0 := fun w => tof_any x w hx
  have U0 := fun w => tof_any y w hy
  have M0 : ∀ w, Gw W w → Calls Try.prog 33 #[.pointer (some ⟨g, 0, none⟩), .agg #[.string (bs (spl x.data.toList).1), .string (bs (spl x.data.toList).2)], .agg #[.string (bs (spl y.data.toList).1), .string (bs (spl y.data.toList).2)]] w fun e W' => e = .returned (.int .u16 (mvI s.l (spl x.data.toList) (spl y.data.toList))) ∧ Gw w W' := fun w G => mayMove_any (h.on G) ok _ _ (pk_spl _) (pk_spl _)
  have F0 : ∀ w, Gw W w → Calls Try.prog 34 #[.pointer (some ⟨g, 0, none⟩), .agg #[.string (bs (spl y.data.toList).1), .string (bs (spl y.data.toList).2)]] w fun e W' => e = .returned (fnV (findT s.l y.data.toList)) ∧ Gw w W' := fun w G => by
    rw [← fn_path ok]
    exact tfind_any (h.on G) ok _ (pk_spl _)
  obtain ⟨l, nx⟩ := s
  rw [mv_path ok nx x.data.toList y.data.toList]
  simp only at M0 F0 hl8
  have HOK := Lib.hid ok
  have HM := Lib.hid h
  have HMZ0 : Hid (mvI l (spl x.data.toList) (spl y.data.toList) = 0 → nameB x.data.toList = true ∧ nameB y.data.toList = true ∧ ∃ i, look l x.data.toList = some i) := fun hz => mv_zero ok hz
  have HRM : Hid (l.length < maxLen) := by have : maxLen = 9223372036854775807 := rfl; show _ < _; omega
  clear h ok hl8
  obtain ⟨xl, hxl⟩ : ∃ xl, xl = x.data.toList := ⟨_, rfl⟩
  obtain ⟨yl, hyl⟩ : ∃ yl, yl = y.data.toList := ⟨_, rfl⟩
  rw [← hxl, ← hyl] at M0 HMZ0 ⊢
  rw [← hxl] at T0
  rw [← hyl] at U0 F0
  have HPK := Lib.hid (pk_spl xl)
  have HQK := Lib.hid (pk_spl yl)
  obtain ⟨p, hp⟩ : ∃ p, p = spl xl := ⟨_, rfl⟩
  obtain ⟨q, hq⟩ : ∃ q, q = spl yl := ⟨_, rfl⟩
  rw [← hp, ← hq] at M0 HMZ0 ⊢
  rw [← hp] at T0 HPK
  rw [← hq] at U0 F0 HQK
  have HP := Lib.hid hp
  have HQ := Lib.hid hq
  clear hp hq hxl hyl
  generalize hr : mvI l p q = r at *
  clear hr
  generalize hf : findT l yl = f at *
  clear hf
  obtain ⟨fn, fd, fo⟩ := f
  have C0 : ∀ w, Gw W w → w.cell? ⟨g, 0, none⟩ = some (.map m) := fun w G => (HM.out.hd.on G).cell 0
  by_cases e0 : r = 0
  · subst e0
    have HMZ := Lib.hid (HMZ0.out rfl)
    have t1 : ((bs p.1).toList == (bs q.1).toList) = decide (p.1 = q.1) := by rw [bs_list, bs_list]; by_cases e : p.1 = q.1 <;> simp [e]
    have t2 : ((bs p.2).toList == (bs q.2).toList) = decide (p.2 = q.2) := by rw [bs_list, bs_list]; by_cases e : p.2 = q.2 <;> simp [e]
    have HE : Hid (decide (p = q) = (decide (p.1 = q.1) && decide (p.2 = q.2))) := by
      show _ = _
      rw [← Bool.decide_and]
      exact decide_eq_decide.2 Prod.ext_iff
    clear HMZ0
    rw [if_pos rfl]
    by_cases epq : p = q
    · rw [decide_eq_true (show p.1 = q.1 by rw [epq])] at t1
      rw [decide_eq_true (show p.2 = q.2 by rw [epq])] at t2
      rw [if_pos epq]
      clear epq HE
      go_enter Try.func18, Try.ntmps18
      go_upto_region 5 with (first
        | (go_at_call 30; first | (with_reducible refine (T0 _).mono ?_; rintro e w0 ⟨rfl, G1⟩) | (with_reducible refine (U0 _).mono ?_; rintro e w1 ⟨rfl, G2⟩; have G3 := (G1.trans G2).trans ((Gw.alloc w1 (.cells #[.string (bs p.1), .string (bs p.2)] 75)).trans (Gw.alloc _ (.cells #[.string (bs q.1), .string (bs q.2)] 75))); have HB0 := (Has.new w1 75 #[.string (bs p.1), .string (bs p.2)]).on (Gw.alloc _ (.cells #[.string (bs q.1), .string (bs q.2)] 75)); have HB1 := Has.new (w1.alloc (.cells #[.string (bs p.1), .string (bs p.2)] 75)) 75 #[.string (bs q.1), .string (bs q.2)]; rw [size_alloc] at HB1))
        | (go_at_call 33; with_reducible refine (M0 _ G3).mono ?_; rintro e w2 ⟨rfl, G4⟩))
      have g2 := Lib.hid (G3.trans G4)
      replace HB0 := HB0.on G4
      replace HB1 := HB1.on G4
      obtain ⟨a0, _⟩ := box0 HB0
      obtain ⟨a1, _⟩ := box1 HB0
      obtain ⟨b0, _⟩ := box0 HB1
      obtain ⟨b1, _⟩ := box1 HB1
      have c2 := C0 _ g2.out
      clear G1 G2 G3 G4 M0 T0 U0
      go_wp2
      go_ret2
      exact ⟨rfl, MkP.of_gw HM.out g2.out⟩
    · have HNE := Lib.hid epq
      rw [if_neg epq]
      have HE2 : Hid ((decide (p.1 = q.1) && decide (p.2 = q.2)) = false) := by show _ = _; rw [← HE.out, decide_eq_false epq]
      generalize decide (p.1 = q.1) = z1 at t1 HE2
      generalize decide (p.2 = q.2) = z2 at t2 HE2
      clear HE epq
      obtain ⟨hnx, hny, i, hi⟩ := HMZ.out
      have HNX := Lib.hid hnx
      have HNY := Lib.hid hny
      have HI := Lib.hid hi
      have hlk : Hid (nlook l p = some i) := by show _ = _; rw [HP.out, nlook_look HOK.out hnx]; exact hi
      have hne : Hid (l ≠ []) := by rintro rfl; simp [look] at hi
      clear HMZ hnx hny hi
      go_enter Try.func18, Try.ntmps18
      go_upto_region 5 with (first
        | (go_at_call 30; first | (with_reducible refine (T0 _).mono ?_; rintro e w0 ⟨rfl, G1⟩) | (with_reducible refine (U0 _).mono ?_; rintro e w1 ⟨rfl, G2⟩; have G3 := (G1.trans G2).trans ((Gw.alloc w1 (.cells #[.string (bs p.1), .string (bs p.2)] 75)).trans (Gw.alloc _ (.cells #[.string (bs q.1), .string (bs q.2)] 75))); have HB0 := (Has.new w1 75 #[.string (bs p.1), .string (bs p.2)]).on (Gw.alloc _ (.cells #[.string (bs q.1), .string (bs q.2)] 75)); have HB1 := Has.new (w1.alloc (.cells #[.string (bs p.1), .string (bs p.2)] 75)) 75 #[.string (bs q.1), .string (bs q.2)]; rw [size_alloc] at HB1))
        | (go_at_call 33; with_reducible refine (M0 _ G3).mono ?_; rintro e w2 ⟨rfl, G4⟩))
      have g2 := Lib.hid (G3.trans G4)
      replace HB0 := HB0.on G4
      replace HB1 := HB1.on G4
      obtain ⟨a0, _⟩ := box0 HB0
      obtain ⟨a1, _⟩ := box1 HB0
      obtain ⟨b0, _⟩ := box0 HB1
      obtain ⟨b1, _⟩ := box1 HB1
      have c2 := C0 _ g2.out
      clear G1 G2 G3 G4 M0 T0 U0
      have HM2 := Lib.hid (HM.out.on g2.out)
      rcases HM2.out.mp with ⟨_, h2⟩ | ⟨b, D, hmb, h2, h3⟩
      · exact absurd h2 hne.out
      subst hmb
      have HPM := Lib.hid h3
      clear h2 h3 C0
      have F1 := F0 w2 g2.out
      cases z1 <;> cases z2 <;> (
        first
        | exact absurd HE2.out (by decide)
        | (
          go_upto_region 8 with (go_at_call 34; with_reducible refine F1.mono ?_; rintro e w5 ⟨rfl, G5⟩)
          have HV := Lib.hid (HM2.out.on (G5.trans (Gw.alloc w5 (.cells #[.int .i64 fn, .bool fd] 77))))
          have HA := Lib.hid ((HB0.on G5).on (Gw.alloc w5 (.cells #[.int .i64 fn, .bool fd] 77)))
          have HB := Lib.hid ((HB1.on G5).on (Gw.alloc w5 (.cells #[.int .i64 fn, .bool fd] 77)))
          have HC := Lib.hid (Has.new w5 77 #[.int .i64 fn, .bool fd])
          have GV : Hid (Gw W (w5.alloc (.cells #[.int .i64 fn, .bool fd] 77))) := (g2.out.trans G5).trans (Gw.alloc _ _)
          have hgeb : Hid (w5.heap.size ≠ b) := by
            have h1 : b < w2.heap.size := HM2.out.lt (.inr rfl)
            have h2 := G5.size
            show _ ≠ _
            omega
          clear G5 F1
          generalize w5.heap.size = eb at *
          generalize (w5.alloc (.cells #[.int .i64 fn, .bool fd] 77)) = V at *
          have hlook := (HV.out.on (Gw.refl V).drew).look1 HOK.out HPK.out
          rw [show nlook (⟨l, nx⟩ : St).l p = some i from hlk.out] at hlook
          simp only [lkN, lkD] at hlook
          have v0 : V.cell? ⟨g, 0, none⟩ = some (.map (some b)) := HV.out.hd.cell 0
          obtain ⟨k0, _⟩ := box0 HA.out
          obtain ⟨k1, _⟩ := box1 HA.out
          obtain ⟨j0, _⟩ := box0 HB.out
          obtain ⟨j1, _⟩ := box1 HB.out
          obtain ⟨D', HO, HPD⟩ : ∃ D', Hid (V.ownsMap Try.prog tK eElem b l.length D') ∧ Hid (MpIs D' l) := by
            rcases HV.out.mp with ⟨h1, _⟩ | ⟨b', D', h1, h2, h3⟩
            · cases h1
            · cases h1; exact ⟨D', h2, h3⟩
          obtain ⟨w6, hupd, own6, turn6⟩ := (show V.drew.ownsMap Try.prog tK eElem b l.length D' from HO.out).store keyedName Try.underlying64 HRM.out (key_of HQK.out) (eElem_mk i.n i.d)
          have HW6 := Lib.hid own6
          have HT6 := Lib.hid turn6
          have HG6 := Lib.hid turn6.grown
          have A6 := Lib.hid (HA.out.same (HG6.out.block _ HA.out.lt (fun e => by
            have h1 := HA.out
            have h2 := HV.out
            rcases h2.mp with ⟨h3, _⟩ | ⟨b', D2, h3, ⟨es, cl, h4, _⟩, _⟩
            · cases h3
            · cases h3
              unfold Has at h1
              rw [Option.some.inj e, h4] at h1
              cases h1)))
          have B6 := Lib.hid (HC.out.same (HG6.out.block _ HC.out.lt (fun e => hgeb.out (Option.some.inj e))))
          have D6 : Hid (Has w6 g 66 #[.map (some b), .int .i64 nx]) := HV.out.hd.same (HG6.out.block g HV.out.hd.lt (fun e => HV.out.ne (b := b) rfl (Option.some.inj e).symm))
          have u0 : w6.cell? ⟨g, 0, none⟩ = some (.map (some b)) := D6.out.cell 0
          obtain ⟨l0, _⟩ := box0 A6.out
          obtain ⟨l1, _⟩ := box1 A6.out
          clear own6 turn6
          go_region
          all_goals (
            go_upto_region 9 with fail
            go_region_law (first
              | (refine step_delete _ (by rfl) _ _ (by rfl) b _ _ (by rfl) HW6.out p HPK.out (by rfl) ?_; intro w7 own7 turn7; have o0 := (box0 (B6.out.same (turn7.grown.block _ B6.out.lt (fun e => hgeb.out (Option.some.inj e))))).1)
              | fail)
            all_goals (
              have HF := move_fin (HV.out.on (Gw.refl V).drew) HOK.out HP.out HQ.out HNX.out HNY.out HNE.out HI.out HPD.out HW6.out HT6.out own7 turn7
              clear own7 turn7
              go_wp2
              go_ret2
              exact ⟨rfl, (ChF.trans (Gw.chf (F := mtF g (some b)) (GV.out.drew)) HF.2 (fun j hj => .inl (.inr (by rw [hj])))), some b, HF.1, fun k hk => .inl hk⟩))))
  · have e1 : (r == 0) = false := beq_false_of_ne e0
    rw [if_neg e0]
    go_enter Try.func18, Try.ntmps18
    go_upto_region 5 with (first
      | (go_at_call 30; first | (with_reducible refine (T0 _).mono ?_; rintro e w0 ⟨rfl, G1⟩) | (with_reducible refine (U0 _).mono ?_; rintro e w1 ⟨rfl, G2⟩; have G3 := (G1.trans G2).trans ((Gw.alloc w1 (.cells #[.string (bs p.1), .string (bs p.2)] 75)).trans (Gw.alloc _ (.cells #[.string (bs q.1), .string (bs q.2)] 75))); have HB0 := (Has.new w1 75 #[.string (bs p.1), .string (bs p.2)]).on (Gw.alloc _ (.cells #[.string (bs q.1), .string (bs q.2)] 75)); have HB1 := Has.new (w1.alloc (.cells #[.string (bs p.1), .string (bs p.2)] 75)) 75 #[.string (bs q.1), .string (bs q.2)]; rw [size_alloc] at HB1))
      | (go_at_call 33; with_reducible refine (M0 _ G3).mono ?_; rintro e w2 ⟨rfl, G4⟩))
    have g2 := Lib.hid (G3.trans G4)
    replace HB0 := HB0.on G4
    replace HB1 := HB1.on G4
    obtain ⟨a0, _⟩ := box0 HB0
    obtain ⟨a1, _⟩ := box1 HB0
    obtain ⟨b0, _⟩ := box0 HB1
    obtain ⟨b1, _⟩ := box1 HB1
    have c2 := C0 _ g2.out
    clear G1 G2 G3 G4 M0 T0 U0
    go_wp2
    go_ret2
    exact ⟨rfl, MkP.of_gw HM.out g2.out⟩
end Go.Proofs.Ytlnobekjcengfaa
