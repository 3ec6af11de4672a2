/-
  Parts of the proof, joined: TreeTo, TreeTn, TreeTc.
-/
import Derived.Test.YtckoapfmfpmdgaaMp24
import Derived.Test.YtckoapfmfpmdgaaMp02

namespace Go.Proofs.Ytckoapfmfpmdgaa
open Go.ChangeShapes Go.WideShapes Go.ChangeAt Go.RowKit Go.Joins
set_option linter.unusedVariables false
set_option linter.unusedSimpArgs false

theorem mv_zero {l : List Itm} (ok : Ok l) {a b : List UInt8} (h : mvI l (spl a) (spl b) = 0) : nameB a = true ∧ nameB b = true ∧ ∃ i, look l a = some i := by
  unfold mvI at h
  rw [fn_path ok, pl_path ok] at h
  by_cases e0 : (findT l a).2.2 = 0
  · obtain ⟨hn, ha, i, hi, hf⟩ := find_zero e0
    rw [if_pos e0] at h
    cases hb : nameB b with
    | false =>
      rw [hb] at h
      split at h
      · cases h
      · simp at h
    | true => exact ⟨hn, rfl, i, hi⟩
  · rw [if_neg e0] at h; exact absurd h e0
theorem move_fin {V w3 w4 : World} {g b n n' : Nat} {l : List Itm} {nx : Int} {D : DataW Unit} {x y : List UInt8} {p q : Pr} {i : Itm} (h : MT V g (some b) ⟨l, nx⟩) (ok : Ok l) (hp : p = spl x) (hq : q = spl y) (hx : nameB x = true) (hy : nameB y = true) (hne : p ≠ q) (hi : look l x = some i) (hM : MpIs D l)
    (own3 : w3.ownsMap Try.prog tK eElem b n (D.put (nkl q) (entD i.n i.d))) (turn3 : V.mapTurned w3 b) (own4 : w4.ownsMap Try.prog tK eElem b n' ((D.put (nkl q) (entD i.n i.d)).del (nkl p))) (turn4 : w3.drew.mapTurned w4 b) :
    MT w4 g (some b) ⟨ren x y (l.eraseP (is y)), nx⟩ ∧ ChF (fun k => k = b) V w4 := by
  subst hp
  subst hq
  have hxy : x ≠ y := fun e => hne (by rw [e])
  have m1 := hM.put ok.nm hy i.n i.d
  have m2 := m1.del (fun j hj => by
    rcases List.mem_cons.1 hj with rfl | hj
    · exact hy
    · exact ok.nm j (List.mem_filter.1 hj).1) hx
  have nd : ((l.eraseP (is y)).map (·.p)).Nodup := by
    rw [erase_filter ok.nd]
    exact ok.nd.sublist (List.filter_sublist.map _)
  have hr := ren_perm nd ((look_erase_ne hxy).trans hi) y
  rw [List.filter_cons_of_pos (by simp [Ne.symm hxy])] at m2
  rw [erase_filter ok.nd] at hr
  rw [← erase_filter ok.nd] at hr m2
  have h3 := mt_turn h turn3 own3 m1
  have h4 := mt_turn (h3.on (Gw.refl _).drew) turn4 own4 (m2.perm hr.symm)
  exact ⟨h4, ((turn_chf turn3).trans (Gw.chf (F := fun k => k = b) (Gw.refl w3).drew) (fun j hj => .inl hj)).trans (turn_chf turn4) (fun j hj => .inl hj)⟩
set_option maxHeartbeats 4000000 in
theorem pmove_any {W : World} {g : Nat} {m : Option Nat} {s : St} (h : MT W g m s) (ok : Ok s.l) (hl8 : s.l.length ≤ 8) (x y : ByteArray) (hx : x.size ≤ 140737488351232) (hy : y.size ≤ 140737488351232) :
    Calls Try.prog 25 #[.pointer (some ⟨g, 0, none⟩), .string x, .string y] W fun e W' => e = .returned (mV (moveT s x.data.toList y.data.toList).1) ∧ MkP g m (moveT s x.data.toList y.data.toList).2 W W' := by
  have T0 := fun w => tof_any x w hx
  have U0 := fun w => tof_any y w hy
  have M0 : ∀ w, Gw W w → Calls Try.prog 56 #[.pointer (some ⟨g, 0, none⟩), .agg #[.string (bs (spl x.data.toList).1), .string (bs (spl x.data.toList).2)], .agg #[.string (bs (spl y.data.toList).1), .string (bs (spl y.data.toList).2)]] w fun e W' => e = .returned (.int .u16 (mvI s.l (spl x.data.toList) (spl y.data.toList))) ∧ Gw w W' := fun w G => mayMove_any (h.on G) ok _ _ (pk_spl _) (pk_spl _)
  have F0 : ∀ w, Gw W w → Calls Try.prog 57 #[.pointer (some ⟨g, 0, none⟩), .agg #[.string (bs (spl y.data.toList).1), .string (bs (spl y.data.toList).2)]] w fun e W' => e = .returned (fnV (findT s.l y.data.toList)) ∧ Gw w W' := fun w G => by
    rw [← fn_path ok]
    exact tfind_any (h.on G) ok _ (pk_spl _)
  obtain ⟨l, nx⟩ := s
  rw [mv_path ok nx x.data.toList y.data.toList]
  simp only at M0 F0 hl8
  have HOK := Lib.hid ok
  have HM := Lib.hid h
  have HMZ0 : Hid (mvI l (spl x.data.toList) (spl y.data.toList) = 0 → nameB x.data.toList = true ∧ nameB y.data.toList = true ∧ ∃ i, look l x.data.toList = some i) := fun hz => mv_zero ok hz
  have HRM : Hid (l.length < maxLen) := by have : maxLen = 9223372036854775807 := rfl; show _ < _; omega
  clear h ok hl8
  obtain ⟨xl, hxl⟩ : ∃ xl, xl = x.data.toList := ⟨_, rfl⟩
  obtain ⟨yl, hyl⟩ : ∃ yl, yl = y.data.toList := ⟨_, rfl⟩
  rw [← hxl, ← hyl] at M0 HMZ0 ⊢
  rw [← hxl] at T0
  rw [← hyl] at U0 F0
  have HPK := Lib.hid (pk_spl xl)
  have HQK := Lib.hid (pk_spl yl)
  obtain ⟨p, hp⟩ : ∃ p, p = spl xl := ⟨_, rfl⟩
  obtain ⟨q, hq⟩ : ∃ q, q = spl yl := ⟨_, rfl⟩
  rw [← hp, ← hq] at M0 HMZ0 ⊢
  rw [← hp] at T0 HPK
  rw [← hq] at U0 F0 HQK
  have HP := Lib.hid hp
  have HQ := Lib.hid hq
  clear hp hq hxl hyl
  generalize hr : mvI l p q = r at *
  clear hr
  generalize hf : findT l yl = f at *
  clear hf
  obtain ⟨fn, fd, fo⟩ := f
  have C0 : ∀ w, Gw W w → w.cell? ⟨g, 0, none⟩ = some (.map m) := fun w G => (HM.out.hd.on G).cell 0
  by_cases e0 : r = 0
  · subst e0
    have HMZ := Lib.hid (HMZ0.out rfl)
    have t1 : ((bs p.1).toList == (bs q.1).toList) = decide (p.1 = q.1) := by rw [bs_list, bs_list]; by_cases e : p.1 = q.1 <;> simp [e]
    have t2 : ((bs p.2).toList == (bs q.2).toList) = decide (p.2 = q.2) := by rw [bs_list, bs_list]; by_cases e : p.2 = q.2 <;> simp [e]
    have HE : Hid (decide (p = q) = (decide (p.1 = q.1) && decide (p.2 = q.2))) := by
      show _ = _
      rw [← Bool.decide_and]
      exact decide_eq_decide.2 Prod.ext_iff
    clear HMZ0
    rw [if_pos rfl]
    by_cases epq : p = q
    · rw [decide_eq_true (show p.1 = q.1 by rw [epq])] at t1
      rw [decide_eq_true (show p.2 = q.2 by rw [epq])] at t2
      rw [if_pos epq]
      clear epq HE
      go_enter Try.func25, Try.ntmps25
      go_upto_region 5 with (first
        | (go_at_call 53; first | (with_reducible refine (T0 _).mono ?_; rintro e w0 ⟨rfl, G1⟩) | (with_reducible refine (U0 _).mono ?_; rintro e w1 ⟨rfl, G2⟩; have G3 := (G1.trans G2).trans ((Gw.alloc w1 (.cells #[.string (bs p.1), .string (bs p.2)] 98)).trans (Gw.alloc _ (.cells #[.string (bs q.1), .string (bs q.2)] 98))); have HB0 := (Has.new w1 98 #[.string (bs p.1), .string (bs p.2)]).on (Gw.alloc _ (.cells #[.string (bs q.1), .string (bs q.2)] 98)); have HB1 := Has.new (w1.alloc (.cells #[.string (bs p.1), .string (bs p.2)] 98)) 98 #[.string (bs q.1), .string (bs q.2)]; rw [size_alloc] at HB1))
        | (go_at_call 56; with_reducible refine (M0 _ G3).mono ?_; rintro e w2 ⟨rfl, G4⟩))
      have g2 := Lib.hid (G3.trans G4)
      replace HB0 := HB0.on G4
      replace HB1 := HB1.on G4
      obtain ⟨a0, _⟩ := box0 HB0
      obtain ⟨a1, _⟩ := box1 HB0
      obtain ⟨b0, _⟩ := box0 HB1
      obtain ⟨b1, _⟩ := box1 HB1
      have c2 := C0 _ g2.out
      clear G1 G2 G3 G4 M0 T0 U0
      go_wp2
      go_ret2
      exact ⟨rfl, MkP.of_gw HM.out g2.out⟩
    · have HNE := Lib.hid epq
      rw [if_neg epq]
      have HE2 : Hid ((decide (p.1 = q.1) && decide (p.2 = q.2)) = false) := by show _ = _; rw [← HE.out, decide_eq_false epq]
      generalize decide (p.1 = q.1) = z1 at t1 HE2
      generalize decide (p.2 = q.2) = z2 at t2 HE2
      clear HE epq
      obtain ⟨hnx, hny, i, hi⟩ := HMZ.out
      have HNX := Lib.hid hnx
      have HNY := Lib.hid hny
      have HI := Lib.hid hi
      have hlk : Hid (nlook l p = some i) := by show _ = _; rw [HP.out, nlook_look HOK.out hnx]; exact hi
      have hne : Hid (l ≠ []) := by rintro rfl; simp [look] at hi
      clear HMZ hnx hny hi
      go_enter Try.func25, Try.ntmps25
      go_upto_region 5 with (first
        | (go_at_call 53; first | (with_reducible refine (T0 _).mono ?_; rintro e w0 ⟨rfl, G1⟩) | (with_reducible refine (U0 _).mono ?_; rintro e w1 ⟨rfl, G2⟩; have G3 := (G1.trans G2).trans ((Gw.alloc w1 (.cells #[.string (bs p.1), .string (bs p.2)] 98)).trans (Gw.alloc _ (.cells #[.string (bs q.1), .string (bs q.2)] 98))); have HB0 := (Has.new w1 98 #[.string (bs p.1), .string (bs p.2)]).on (Gw.alloc _ (.cells #[.string (bs q.1), .string (bs q.2)] 98)); have HB1 := Has.new (w1.alloc (.cells #[.string (bs p.1), .string (bs p.2)] 98)) 98 #[.string (bs q.1), .string (bs q.2)]; rw [size_alloc] at HB1))
        | (go_at_call 56; with_reducible refine (M0 _ G3).mono ?_; rintro e w2 ⟨rfl, G4⟩))
      have g2 := Lib.hid (G3.trans G4)
      replace HB0 := HB0.on G4
      replace HB1 := HB1.on G4
      obtain ⟨a0, _⟩ := box0 HB0
      obtain ⟨a1, _⟩ := box1 HB0
      obtain ⟨b0, _⟩ := box0 HB1
      obtain ⟨b1, _⟩ := box1 HB1
      have c2 := C0 _ g2.out
      clear G1 G2 G3 G4 M0 T0 U0
      have HM2 := Lib.hid (HM.out.on g2.out)
      rcases HM2.out.mp with ⟨_, h2⟩ | ⟨b, D, hmb, h2, h3⟩
      · exact absurd h2 hne.out
      subst hmb
      have HPM := Lib.hid h3
      clear h2 h3 C0
      have F1 := F0 w2 g2.out
      cases z1 <;> cases z2 <;> (
        first
        | exact absurd HE2.out (by decide)
        | (
          go_upto_region 8 with (go_at_call 57; with_reducible refine F1.mono ?_; rintro e w5 ⟨rfl, G5⟩)
          have HV := Lib.hid (HM2.out.on (G5.trans (Gw.alloc w5 (.cells #[.int .i64 fn, .bool fd] 100))))
          have HA := Lib.hid ((HB0.on G5).on (Gw.alloc w5 (.cells #[.int .i64 fn, .bool fd] 100)))
          have HB := Lib.hid ((HB1.on G5).on (Gw.alloc w5 (.cells #[.int .i64 fn, .bool fd] 100)))
          have HC := Lib.hid (Has.new w5 100 #[.int .i64 fn, .bool fd])
          have GV : Hid (Gw W (w5.alloc (.cells #[.int .i64 fn, .bool fd] 100))) := (g2.out.trans G5).trans (Gw.alloc _ _)
          have hgeb : Hid (w5.heap.size ≠ b) := by
            have h1 : b < w2.heap.size := HM2.out.lt (.inr rfl)
            have h2 := G5.size
            show _ ≠ _
            omega
          clear G5 F1
          generalize w5.heap.size = eb at *
          generalize (w5.alloc (.cells #[.int .i64 fn, .bool fd] 100)) = V at *
          have hlook := (HV.out.on (Gw.refl V).drew).look1 HOK.out HPK.out
          rw [show nlook (⟨l, nx⟩ : St).l p = some i from hlk.out] at hlook
          simp only [lkN, lkD] at hlook
          have v0 : V.cell? ⟨g, 0, none⟩ = some (.map (some b)) := HV.out.hd.cell 0
          obtain ⟨k0, _⟩ := box0 HA.out
          obtain ⟨k1, _⟩ := box1 HA.out
          obtain ⟨j0, _⟩ := box0 HB.out
          obtain ⟨j1, _⟩ := box1 HB.out
          obtain ⟨D', HO, HPD⟩ : ∃ D', Hid (V.ownsMap Try.prog tK eElem b l.length D') ∧ Hid (MpIs D' l) := by
            rcases HV.out.mp with ⟨h1, _⟩ | ⟨b', D', h1, h2, h3⟩
            · cases h1
            · cases h1; exact ⟨D', h2, h3⟩
          obtain ⟨w6, hupd, own6, turn6⟩ := (show V.drew.ownsMap Try.prog tK eElem b l.length D' from HO.out).store keyedName Try.underlying87 HRM.out (key_of HQK.out) (eElem_mk i.n i.d)
          have HW6 := Lib.hid own6
          have HT6 := Lib.hid turn6
          have HG6 := Lib.hid turn6.grown
          have A6 := Lib.hid (HA.out.same (HG6.out.block _ HA.out.lt (fun e => by
            have h1 := HA.out
            have h2 := HV.out
            rcases h2.mp with ⟨h3, _⟩ | ⟨b', D2, h3, ⟨es, cl, h4, _⟩, _⟩
            · cases h3
            · cases h3
              unfold Has at h1
              rw [Option.some.inj e, h4] at h1
              cases h1)))
          have B6 := Lib.hid (HC.out.same (HG6.out.block _ HC.out.lt (fun e => hgeb.out (Option.some.inj e))))
          have D6 : Hid (Has w6 g 89 #[.map (some b), .int .i64 nx]) := HV.out.hd.same (HG6.out.block g HV.out.hd.lt (fun e => HV.out.ne (b := b) rfl (Option.some.inj e).symm))
          have u0 : w6.cell? ⟨g, 0, none⟩ = some (.map (some b)) := D6.out.cell 0
          obtain ⟨l0, _⟩ := box0 A6.out
          obtain ⟨l1, _⟩ := box1 A6.out
          clear own6 turn6
          go_region
          all_goals (
            go_upto_region 9 with fail
            go_region_law (first
              | (refine step_delete _ (by rfl) _ _ (by rfl) b _ _ (by rfl) HW6.out p HPK.out (by rfl) ?_; intro w7 own7 turn7; have o0 := (box0 (B6.out.same (turn7.grown.block _ B6.out.lt (fun e => hgeb.out (Option.some.inj e))))).1)
              | fail)
            all_goals (
              have HF := move_fin (HV.out.on (Gw.refl V).drew) HOK.out HP.out HQ.out HNX.out HNY.out HNE.out HI.out HPD.out HW6.out HT6.out own7 turn7
              clear own7 turn7
              go_wp2
              go_ret2
              exact ⟨rfl, (ChF.trans (Gw.chf (F := mtF g (some b)) (GV.out.drew)) HF.2 (fun j hj => .inl (.inr (by rw [hj])))), some b, HF.1, fun k hk => .inl hk⟩))))
  · have e1 : (r == 0) = false := beq_false_of_ne e0
    rw [if_neg e0]
    go_enter Try.func25, Try.ntmps25
    go_upto_region 5 with (first
      | (go_at_call 53; first | (with_reducible refine (T0 _).mono ?_; rintro e w0 ⟨rfl, G1⟩) | (with_reducible refine (U0 _).mono ?_; rintro e w1 ⟨rfl, G2⟩; have G3 := (G1.trans G2).trans ((Gw.alloc w1 (.cells #[.string (bs p.1), .string (bs p.2)] 98)).trans (Gw.alloc _ (.cells #[.string (bs q.1), .string (bs q.2)] 98))); have HB0 := (Has.new w1 98 #[.string (bs p.1), .string (bs p.2)]).on (Gw.alloc _ (.cells #[.string (bs q.1), .string (bs q.2)] 98)); have HB1 := Has.new (w1.alloc (.cells #[.string (bs p.1), .string (bs p.2)] 98)) 98 #[.string (bs q.1), .string (bs q.2)]; rw [size_alloc] at HB1))
      | (go_at_call 56; with_reducible refine (M0 _ G3).mono ?_; rintro e w2 ⟨rfl, G4⟩))
    have g2 := Lib.hid (G3.trans G4)
    replace HB0 := HB0.on G4
    replace HB1 := HB1.on G4
    obtain ⟨a0, _⟩ := box0 HB0
    obtain ⟨a1, _⟩ := box1 HB0
    obtain ⟨b0, _⟩ := box0 HB1
    obtain ⟨b1, _⟩ := box1 HB1
    have c2 := C0 _ g2.out
    clear G1 G2 G3 G4 M0 T0 U0
    go_wp2
    go_ret2
    exact ⟨rfl, MkP.of_gw HM.out g2.out⟩
end Go.Proofs.Ytckoapfmfpmdgaa

namespace Go.Proofs.Ytckoapfmfpmdgaa
open Go.ChangeShapes Go.WideShapes Go.ChangeAt Go.RowKit Go.Joins
set_option linter.unusedVariables false
set_option linter.unusedSimpArgs false

/-- The program's tree as a predicate of a set of blocks. -/
def TT : TP := fun F W v s => ∃ g m, v = .pointer (some ⟨g, 0, none⟩) ∧ MT W g m s ∧ F = mtF g m
/-- A tree that is being filled. -/
structure NwT (W w : World) (g : Nat) (m : Option Nat) (s : St) : Prop where
  gw : Gw W w
  mt : MT w g m s
  hg : W.heap.size ≤ g
  hm : ∀ b, m = some b → W.heap.size ≤ b
theorem NwT.next {W w w' : World} {g : Nat} {m : Option Nat} {s s' : St} (h : NwT W w g m s) {w1 : World} (G : Gw w w1) (k : MkP g m s' w1 w') : ∃ m', NwT W w' g m' s' := by
  obtain ⟨m', h1, h2⟩ := k.ex
  have hs := h.gw.size
  have hG : Gw W w1 := h.gw.trans G
  refine ⟨m', ⟨⟨k.ch.os.trans hG.os, rfl, k.ch.output.trans hG.output, Nat.le_trans hG.size k.ch.size, fun j hj => (k.ch.block j (Nat.lt_of_lt_of_le hj hG.size) (fun hf => ?_)).trans (hG.block j hj)⟩, h1, h.hg, fun b hb => ?_⟩⟩
  · rcases hf with q | q
    · have := h.hg; omega
    · have := h.hm j q; omega
  · rcases h2 b hb with q | q
    · exact h.hm b q
    · exact Nat.le_trans hG.size q
theorem newP_ok {W w : World} {es : List (List UInt8 × Bool)} {g : Nat} {m : Option Nat} {s : St} (h : NwT W w g m s) (hr : runN (es.take es.length) ⟨[], 0⟩ = some s) : NewP TT W es (.returned (.tuple #[.pointer (some ⟨g, 0, none⟩), .int .i64 0])) w := by
  unfold NewP
  rw [newT_run, ← List.take_length (l := es), hr]
  exact ⟨_, mtF g m, rfl, ⟨g, m, rfl, h.mt, rfl⟩, h.gw, fun k hk => by
    rcases hk with rfl | q
    · exact h.hg
    · exact h.hm k q⟩
theorem runN_one {es : List (List UInt8 × Bool)} {k : Nat} {e : List UInt8 × Bool} {s : St} (he : es[k]? = some e) (hr : runN (es.take k) ⟨[], 0⟩ = some s) : runN (es.take (k + 1)) ⟨[], 0⟩ = if (makeT s e.1 e.2).1.2 = 0 then some (makeT s e.1 e.2).2 else none := by
  obtain ⟨hk, h2⟩ := List.getElem?_eq_some_iff.1 he
  rw [List.take_succ_eq_append_getElem hk, runN_app, hr, h2]
  show (if _ then _ else _) = _
  split <;> rfl
theorem newP_bad {W w : World} {es : List (List UInt8 × Bool)} {k : Nat} {e : List UInt8 × Bool} {s : St} (he : es[k]? = some e) (hr : runN (es.take k) ⟨[], 0⟩ = some s) (hb : (makeT s e.1 e.2).1.2 ≠ 0) (G : Gw W w) : NewP TT W es (.returned (.tuple #[.pointer none, .int .i64 11])) w := by
  have h1 := runN_one he hr
  rw [if_neg hb] at h1
  have h2 : newT es = none := by
    rw [newT_run, show es = es.take (k + 1) ++ es.drop (k + 1) by simp, runN_app, h1]
    rfl
  unfold NewP
  rw [h2]
  exact ⟨rfl, G⟩
theorem tmake_nx {s : St} (p : List UInt8) (d : Bool) : (makeT s p d).2.nx = s.nx ∨ (makeT s p d).2.nx = s.nx + 1 := by
  unfold makeT
  split
  · split
    · split
      · exact .inl rfl
      · split
        · exact .inl rfl
        · split
          · exact .inl rfl
          · exact .inr rfl
    · exact .inl rfl
  · exact .inl rfl
theorem make_len8 {s : St} (p : List UInt8) (d : Bool) (h : s.l.length ≤ 8) : (makeT s p d).2.l.length ≤ 8 := by
  unfold makeT
  split
  · split
    · split
      · exact h
      · split
        · exact h
        · split
          · exact h
          · simp; omega
    · exact h
  · exact h
set_option maxRecDepth 100000 in
set_option maxHeartbeats 4000000 in
theorem pnew_any {W : World} {x : Value} {es : List (List UInt8 × Bool)} (hx : EntAt W x es) (hsm : ∀ e ∈ es, e.1.length ≤ 140737488351232) (hlen : es.length ≤ 4611686018427387904) : Calls Try.prog 17 #[x] W fun e W' => NewP TT W es e W' := by
  obtain ⟨A, cap, rfl, hE⟩ := hx
  have HE := Lib.hid hE
  have HSM := Lib.hid hsm
  have HL := Lib.hid hlen
  have N0 : Hid (NwT W (W.alloc (.cells #[.map none, .int .i64 0] 89)) W.heap.size none ⟨[], 0⟩) := ⟨Gw.alloc _ _, ⟨Has.new _ _ _, .inl ⟨rfl, rfl⟩⟩, Nat.le_refl _, fun b hb => by cases hb⟩
  clear hE hsm hlen
  go_enter Try.func17, Try.ntmps17
  go_upto_region 3 with fail
  generalize (W.alloc (.cells #[.map none, .int .i64 0] 89)) = w0 at *
  go_loopw [13] (fun i wr => ∃ (k : Nat) (s : St) (m : Option Nat), i = .int .i64 k ∧ k ≤ es.length ∧ Hid (runN (es.take k) ⟨[], 0⟩ = some s) ∧ Hid (NwT W wr W.heap.size m s) ∧ Hid (Ok s.l ∧ s.l.length ≤ 8 ∧ 0 ≤ s.nx ∧ s.nx ≤ k)) (fun i _ => es.length - (intOf i).toNat)
  case atStart => exact ⟨0, _, none, rfl, Nat.zero_le _, rfl, N0.out, Ok.nil, by decide, by decide, by decide⟩
  case round =>
    obtain ⟨k, s, m, rfl, hk, HR, HN, HK⟩ := hrel
    by_cases hlt : k < es.length
    · obtain ⟨e, he⟩ : ∃ e, es[k]? = some e := ⟨_, List.getElem?_eq_getElem hlt⟩
      obtain ⟨ge, off, rfl, d0, d1, c, d2⟩ := HE.out k e he
      have hb := Lib.hid (HSM.out e (List.mem_of_getElem? he))
      have GN := HN.out.gw
      have d0 := GN.cell d0
      have d1 := GN.cell d1
      have d2 := GN.cell d2
      obtain ⟨hok, hl8, hn0, hnk⟩ := HK.out
      have HOK := Lib.hid hok
      have hbe : (bs e.1).size ≤ 140737488351232 := by rw [bs_size]; exact hb.out
      have hnx : s.nx ≤ 4611686018427387904 := by have := HL.out; omega
      have M0 : ∀ w, Gw wr w → Calls Try.prog 23 #[.pointer (some ⟨W.heap.size, 0, none⟩), .string (bs e.1), .bool e.2] w fun e' W' => e' = .returned (mV (makeT s e.1 e.2).1) ∧ MkP W.heap.size m (makeT s e.1 e.2).2 w W' := fun w G => by
        have := pmake_any (HN.out.mt.on G) hok hl8 (bs e.1) hbe e.2 hn0 hnx
        rw [bs_data] at this
        exact this
      have HE1 := Lib.hid he
      have HNB : Hid (∀ w, (makeT s e.1 e.2).1.2 ≠ 0 → Gw W w → NewP TT W es (.returned (.tuple #[.pointer none, .int .i64 11])) w) := fun w hb G => newP_bad he HR.out hb G
      have HON := Lib.hid (runN_one he HR.out)
      have HON2 := Lib.hid (And.intro (make_ok hok e.1 e.2) (And.intro (make_len8 e.1 e.2 hl8) (tmake_nx (s := s) e.1 e.2)))
      have HNK := Lib.hid (And.intro hn0 hnk)
      have GA : ∀ o : Obj, Gw wr (wr.alloc o) := fun o => Gw.alloc _ _
      have h62 : (k : Int) + 1 ≤ 9223372036854775807 := by have := HL.out; omega
      obtain ⟨r, hr⟩ : ∃ r, r = makeT s e.1 e.2 := ⟨_, rfl⟩
      rw [← hr] at M0
      have HRR := Lib.hid hr
      clear hok hl8 hn0 hnk hbe hnx he hr
      obtain ⟨⟨rn, ro⟩, s'⟩ := r
      obtain ⟨e1, e2⟩ := e
      unfold mV at M0
      simp only at d0 d1 d2 M0
      go_upto_region 6 with (go_at_call 23; with_reducible refine (M0 _ (GA _)).mono ?_; rintro e' w3 ⟨rfl, HMK⟩)
      by_cases e0 : ro = 0
      · subst e0
        obtain ⟨m', HN'⟩ := HN.out.next (GA _) HMK
        go_wp2
        go_roundw
        case rel =>
          have h := HON2.out
          rw [← HRR.out] at h
          obtain ⟨h1, h2, h3⟩ := h
          have h4 := HNK.out
          refine ⟨k + 1, s', m', by go_num, by omega, ?_, HN', h1, h2, ?_, ?_⟩
          · show _ = _
            rw [HON.out, ← HRR.out]
            rfl
          · rcases h3 with q | q
            · have q' : s'.nx = s.nx := q; omega
            · have q' : s'.nx = s.nx + 1 := q; omega
          · rcases h3 with q | q
            · have q' : s'.nx = s.nx := q; omega
            · have q' : s'.nx = s.nx + 1 := q; omega
        case measure => simp [intOf]; omega
      · have eb : (ro == 0) = false := beq_false_of_ne e0
        obtain ⟨m', HN'⟩ := HN.out.next (GA _) HMK
        have HZ := Lib.hid (HNB.out w3 (by rw [← HRR.out]; exact e0) HN'.gw)
        clear GA HMK HN' e0 d0 d1 d2 M0 h62 hk hlt
        go_wp2
        go_ret2
        exact HZ.out
    · obtain rfl : es.length = k := by omega
      go_wp2
      go_ret2
      exact newP_ok HN.out HR.out
end Go.Proofs.Ytckoapfmfpmdgaa

namespace Go.Proofs.Ytckoapfmfpmdgaa
open Go.ChangeShapes Go.WideShapes Go.ChangeAt Go.RowKit Go.Joins
set_option linter.unusedVariables false
set_option linter.unusedSimpArgs false

theorem MkP.kp {g : Nat} {m : Option Nat} {s' : St} {W W' : World} (h : MkP g m s' W W') : Kp TT (mtF g m) (.pointer (some ⟨g, 0, none⟩)) s' W W' := by
  obtain ⟨m', h1, h2⟩ := h.ex
  refine ⟨h.ch, mtF g m', ⟨g, m', rfl, h1, rfl⟩, fun k hk => ?_⟩
  rcases hk with rfl | q
  · exact .inl (.inl rfl)
  · rcases h2 k q with r | r
    · exact .inl (.inr r)
    · exact .inr r
theorem tree_c : ∃ T : TP, TreeC T := by
  refine ⟨TT, ?_⟩
  constructor
  · rintro F W v s k ⟨g, m, rfl, h, rfl⟩ hk
    exact h.lt hk
  · rintro F W W' v s ⟨g, m, rfl, h, rfl⟩ he
    exact ⟨g, m, rfl, h.same he, rfl⟩
  · intro W x es hx hs hl
    exact pnew_any hx hs hl
  · rintro F W v s p ⟨g, m, rfl, h, rfl⟩ ok hl hp
    exact (pfind_any h ok p hp).mono fun e W' ⟨he, G⟩ => ⟨he, (MkP.of_gw h G).kp⟩
  · rintro F W v s p d ⟨g, m, rfl, h, rfl⟩ ok hl hp h0 h1
    exact (pmake_any h ok hl p hp d h0 h1).mono fun e W' ⟨he, k⟩ => ⟨he, k.kp⟩
  · rintro F W v s p d ⟨g, m, rfl, h, rfl⟩ ok hl hp
    exact (pdrop_any h ok hl p hp d).mono fun e W' ⟨he, k⟩ => ⟨he, k.kp⟩
  · rintro F W v s a b ⟨g, m, rfl, h, rfl⟩ ok hl ha hb
    exact (pmove_any h ok hl a b ha hb).mono fun e W' ⟨he, k⟩ => ⟨he, k.kp⟩
  · rintro F W v s p ⟨g, m, rfl, h, rfl⟩ ok hl hp
    exact (pmany_any h ok hl p hp).mono fun e W' ⟨he, G⟩ => ⟨he, (MkP.of_gw h G).kp⟩
  · rintro F W v s ⟨g, m, rfl, h, rfl⟩ ok hl
    exact plen_any h
  · rintro F W v s ⟨g, m, rfl, h, rfl⟩ ok hl
    exact (pcopy_any h).mono fun e W' ⟨g', he, G, hg, m', h1, h2⟩ => ⟨_, mtF g' m', he, G, ⟨g', m', rfl, h1, rfl⟩, fun k hk => by
      rcases hk with rfl | q
      · exact hg
      · exact h2 k q⟩
end Go.Proofs.Ytckoapfmfpmdgaa
