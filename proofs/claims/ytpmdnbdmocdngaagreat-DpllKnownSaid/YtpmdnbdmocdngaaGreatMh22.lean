/-
  Parts of the proof, joined: DpllVj, DpllVk, DpllFo.
-/
import Derived.Test.YtpmdnbdmocdngaaGreatMh21

namespace Go.Proofs.YtpmdnbdmocdngaaGreat
open Go.ChangeShapes Go.WideShapes Go.ChangeAt Go.RowKit
set_option linter.unusedVariables false
set_option linter.unusedSimpArgs false

section
variable {B : Nat} {τ τ' : Nat → Nat} {w wr : World} {p n gone i cap : Nat} {d d0 : Sd} {K0 : Nat → Prop} {Mo : (Nat → Bool) → Prop} {l0 kept : List (Nat × Nat)} {A : Option Addr}
set_option maxHeartbeats 6400000 in
set_option maxRecDepth 4000 in
theorem visit_some (h : Sr B τ w p n d0) (v : Vs n K0 Mo d0 d0 gone [] (d0.F gone)) {gw g : Nat} (hw : Wat τ w p n gone (d0.F gone) gw (some ⟨g, 0, none⟩) cap) :
    Calls Tryz.prog 92 #[ptr p, .int .i32 (gone : Int)] w (ViPost B τ w p n K0 Mo d0 gone) := by
  have hn := v.I.L.nb
  have hg := v.g
  obtain ⟨l0, hl0⟩ : ∃ l, d0.F gone = l := ⟨_, rfl⟩
  have hle : l0.length ≤ d0.cls.length := by rw [← hl0]; exact v.I.W.len v.g
  have hcb := v.I.hb
  have HR0 : Hid (ViR B τ w p n K0 Mo d0 gone l0 (some ⟨g, 0, none⟩) cap 0 [] { d0 with gq := gone, gv := .slice (some ⟨g, 0, none⟩) (d0.F gone).length cap } τ w) := by
    refine ⟨by rw [← hl0]; exact v.re _ _, ?_, Stp.refl _ _, Nat.le_refl _, Nat.zero_le _, rfl, by rw [← hl0], rfl⟩
    have := h.pin hw v.g
    rw [← mem_self ({ d0 with gq := gone, gv := .slice (some ⟨g, 0, none⟩) (d0.F gone).length cap } : Sd) gone] at this
    rw [← hl0]
    exact this
  rw [hl0] at hw
  have f1 := hw.head
  have f2 := hw.at_
  have z1 := hw.wlt
  have zp := h.plt
  have b1 : (0 : Int) ≤ (gone : Int) := by omega
  have b2 : (gone : Int) < ((2 * n : Nat) : Int) := by omega
  have hmx : l0.length ≤ cap ∧ cap ≤ 9223372036854775807 := by
    rcases hw.own.2 with ⟨h0, _⟩ | ⟨g', cap', cur, h0, _, _, h1, h2, _⟩
    · cases h0
    · injection h0 with _ _ h3
      subst h3
      exact ⟨h1, h2⟩
  have m1 := hmx.1
  have m2 := hmx.2
  clear h v hw hl0 hmx
  go_enter Tryz.func92, Tryz.ntmps92
  go_wp2_with fail
  go_loopw [6, 22] (fun kv iv wr => ∃ (i : Nat) (kept : List (Nat × Nat)) (d : Sd) (τ' : Nat → Nat), iv = .int .i64 i ∧ kv = .slice (some ⟨g, 0, none⟩) kept.length cap ∧ i ≤ l0.length ∧ kept.length ≤ i ∧ Hid (ViR B τ w p n K0 Mo d0 gone l0 (some ⟨g, 0, none⟩) cap i kept d τ' wr)) (fun _ iv _ => l0.length - (intOf iv).toNat)
  case atStart => exact ⟨0, [], _, τ, rfl, rfl, Nat.zero_le _, Nat.le_refl _, HR0⟩
  case round =>
    obtain ⟨i, kept, d, τ', rfl, rfl, hil, hkl, R⟩ := hrel
    clear HR0
    by_cases hlt : i < l0.length
    · obtain ⟨⟨k, y⟩, hx⟩ : ∃ x, l0[i]? = some x := ⟨_, List.getElem?_eq_getElem hlt⟩
      have hdr : l0.drop i = (k, y) :: l0.drop (i + 1) := by
        rw [List.drop_eq_getElem_cons hlt]
        congr 1
        rw [List.getElem?_eq_getElem hlt] at hx
        injection hx
      have HV := Lib.hid (show Vs n K0 Mo d0 d gone kept ((k, y) :: l0.drop (i + 1)) by rw [← hdr]; exact R.out.V)
      obtain ⟨c, hc, _, hyc, hyg⟩ := HV.out.entry
      have hyn := (HV.out.I.C.lt k c hc y hyc).1
      have hkb : k < 2147483648 := by have := (List.getElem?_eq_some_iff.1 hc).1; have := HV.out.I.hb; omega
      obtain ⟨gw2, hW⟩ := R.out.wat
      have hM : (kept ++ l0.drop kept.length)[i]? = some (k, y) := by
        rw [List.getElem?_append_right hkl, List.getElem?_drop, show kept.length + (i - kept.length) = i by omega]; exact hx
      obtain ⟨g', e0, hrole, x1, x2, zg, _, _, gfree⟩ := hW.cell i (k, y) hM
      injection e0 with e0; injection e0 with e0
      subst e0
      obtain ⟨g2, c2, a2⟩ := R.out.R.at_wo (by show 0 < d.wo.length; rw [HV.out.I.L.wo]; omega)
      have hyw : d.wo[y]? = some (wv d.wo y) := wv_at (by rw [HV.out.I.L.wo]; exact hyn)
      have f3 : wr.cell? ⟨p, 2, none⟩ = some (.slice (some ⟨g2, 0, none⟩) d.wo.length c2) := a2.len_wo.1
      have l3 : d.wo.length ≤ c2 := a2.len_wo.2
      have k3 := a2.cap
      have x3 : wr.cell? ⟨g2, y, none⟩ = some (.int .i8 (wv d.wo y)) := a2.wo hyw
      have z3 := a2.lt
      have zp := R.out.R.plt
      have b3 : (0 : Int) ≤ (y : Int) := by omega
      have b4 : (y : Int) < (d.wo.length : Int) := by rw [HV.out.I.L.wo]; omega
      have b5 : (0 : Int) ≤ (i : Int) := by omega
      have b6 : (i : Int) < (l0.length : Int) := by omega
      have HDR := Lib.hid hdr
      clear f1 f2 z1 hM hdr hx hc hyc a2 hyw hW
      go_wp2_with fail
      have b0 : Below wr.heap.size wr (wr.alloc (.cells #[.int .i32 (k : Int), .int .i32 (y : Int)] 211)) := (Below.refl _ _).alloc (Nat.le_refl _) _
      obtain ⟨τ1, R1, hnew⟩ := R.out.fresh b0
      have R1 := Lib.hid R1
      have hnb : τ1 wr.heap.size = 0 := hnew _ (Nat.le_refl _)
      have xb := new_heap wr (.cells #[.int .i32 (k : Int), .int .i32 (y : Int)] 211)
      have y0 : (wr.alloc (.cells #[.int .i32 (k : Int), .int .i32 (y : Int)] 211)).cell? ⟨wr.heap.size, 0, none⟩ = some (.int .i32 (k : Int)) := by unfold World.cell?; rw [xb]; rfl
      have y1 : (wr.alloc (.cells #[.int .i32 (k : Int), .int .i32 (y : Int)] 211)).cell? ⟨wr.heap.size, 1, none⟩ = some (.int .i32 (y : Int)) := by unfold World.cell?; rw [xb]; rfl
      have f4 := (b0.cell (p := ⟨p, 2, none⟩) zp).trans f3
      have x4 := (b0.cell (p := ⟨g2, y, none⟩) z3).trans x3
      have zq := R1.out.R.plt
      have zh : g < (wr.alloc (.cells #[.int .i32 (k : Int), .int .i32 (y : Int)] 211)).heap.size := Nat.lt_of_lt_of_le zg b0.size
      have znb : wr.heap.size < (wr.alloc (.cells #[.int .i32 (k : Int), .int .i32 (y : Int)] 211)).heap.size := by simp
      generalize hW1 : wr.alloc (.cells #[.int .i32 (k : Int), .int .i32 (y : Int)] 211) = W1 at *
      generalize wr.heap.size = nb at *
      clear R b0 xb hW1 hnew z3 x1 x2 gfree f3 x3 zp zg
      obtain ⟨yv, hyv⟩ : ∃ z, wv d.wo y = z := ⟨_, rfl⟩
      have HYV := Lib.hid hyv
      rw [hyv] at x4
      clear hyv
      by_cases hy1 : yv = 1
      · subst hy1
        go_wp2_with fail
        go_quiet (fail)
        have B1 : Hid (Below W1.heap.size W1 (W1.drewN nq)) := Below.draws (Below.refl _ _) nq
        have R2 := Lib.hid (R1.out.alike B1.out)
        have w0 := (B1.out.cell (p := ⟨nb, 0, none⟩) znb).trans y0
        have w1 := (B1.out.cell (p := ⟨nb, 1, none⟩) znb).trans y1
        have zg := Nat.lt_of_lt_of_le zh B1.out.size
        clear R1 f4 x4 y0 y1 zh znb B1 zq
        generalize W1.drewN nq = W2 at *
        obtain ⟨i0, hi0, hz0, hz1, hz2⟩ := info_parts infoWat
        have HI := Lib.hid (show _ ∧ _ ∧ _ ∧ _ from ⟨hi0, hz0, hz1, hz2⟩)
        have b2 : Below W2.heap.size W2 (W2.alloc (.cells #[.int .i32 (k : Int), .int .i32 (y : Int)] 211)) := (Below.refl _ _).alloc (Nat.le_refl _) _
        have R3 := Lib.hid (R2.out.alike b2)
        have HP := Lib.hid (show ViR B τ w p n K0 Mo d0 gone l0 (some ⟨g, 0, none⟩) cap (i + 1) (kept ++ [(k, y)]) d τ1 ((W2.alloc (.cells #[.int .i32 (k : Int), .int .i32 (y : Int)] 211)).setCells g (kept.length * 2) [.int .i32 (k : Int), .int .i32 (y : Int)]) by
          obtain ⟨rr, tt⟩ := R3.out.put (d' := d) rfl hlt (k, y) (.inr rfl)
          exact ⟨HV.out.keep HYV.out, rr, R3.out.T.trans tt, by rw [List.length_append]; simp; omega, hlt, R3.out.gq, R3.out.gv, R3.out.nx⟩)
        have SP := Lib.hid (R3.out.spare hlt)
        clear hi0 hz0 hz1 hz2 b2
        go_wp2_with (at_builtin; refine wpList_append_in _ rfl _ _ _ rfl 211 i0 2 Tryz.underlying209 HI.out.1 HI.out.2.2.1 g 0 kept.length cap rfl ⟨W2.heap.size, 0, none⟩ 1 1 [.int .i32 (k : Int), .int .i32 (y : Int)] rfl rfl (World.news_of_block (cs := #[.int .i32 (k : Int), .int .i32 (y : Int)]) (t := 211) (fr := (0, 0)) (new_heap W2 _)) (by simp [Value.oneCell']) (by omega) SP.out ?_)
        go_roundw
        case rel => exact ⟨i + 1, kept ++ [(k, y)], d, τ1, by go_num, by simp, hlt, by rw [List.length_append]; simp; omega, HP⟩
        case measure => simp [intOf]; omega
      · have hy2 : (yv == 1) = false := beq_eq_false_iff_ne.2 hy1
        go_wp2_with fail
        go_quiet (fail)
        have B1 : Hid (Below W1.heap.size W1 (W1.drewN nq)) := Below.draws (Below.refl _ _) nq
        have R2 := Lib.hid (R1.out.alike B1.out)
        have w0 := (B1.out.cell (p := ⟨nb, 0, none⟩) znb).trans y0
        have hMl := R2.out.len
        obtain ⟨dd, c1, first, V2, hk1, h0, h1, hq1, hq2, hq3, CM⟩ := move_any HV.out R2.out.R (by rw [hMl]; omega) R2.out.gq
        have HC := Lib.hid (show dd.cls[k]? = some c1 ∧ c1.ls[0]? = some first ∧ c1.ls[1]? = some gone from ⟨hk1, h0, h1⟩)
        have HQ := Lib.hid (show dd.gq = gone ∧ dd.gv = .slice (some ⟨g, 0, none⟩) l0.length cap ∧ dd.nx = d0.nx from ⟨hq1.trans R2.out.gq, hq2.trans R2.out.gv, hq3.trans R2.out.nx⟩)
        have V2 := Lib.hid V2
        have hfn := (V2.out.I.C.lt k c1 hk1 first (List.mem_of_getElem? h0)).1
        have hfg := V2.out.ne hk1 (by decide) h0 h1
        clear R1 f4 x4 y0 y1 zh znb B1 zq hk1 h0 h1 hq1 hq2 hq3 hMl HYV hy1 hy2
        generalize W1.drewN nq = W2 at *
        go_wp2_with fail
        (with_reducible refine CM.mono ?_)
        rintro e W3 (⟨rfl, hs, ht, hno⟩ | ⟨τ2, j, q, yq, rfl, hj, hjq, hyq, hyq0, hs, ht⟩)
        · have hnb3 := hnb
          have u0 := ht.cellz hnb w0
          have R3 := Lib.hid (show ViR B τ w p n K0 Mo d0 gone l0 (some ⟨g, 0, none⟩) cap i kept dd τ1 W3 from ⟨by rw [HDR.out]; exact V2.out, hs, R2.out.T.trans ht, hkl, hil, HQ.out.1, HQ.out.2.1, HQ.out.2.2⟩)
          have HNO := Lib.hid hno
          clear hs ht hno CM w0 R2
          have hne1 := HC.out.2.1
          obtain ⟨i0, hi0, hz0, hz1, hz2⟩ := info_parts infoWat
          have HI := Lib.hid (show _ ∧ _ ∧ _ ∧ _ from ⟨hi0, hz0, hz1, hz2⟩)
          have b2 : Below W3.heap.size W3 (W3.alloc (.cells #[.int .i32 (k : Int), .int .i32 (first : Int)] 211)) := (Below.refl _ _).alloc (Nat.le_refl _) _
          have R4 := Lib.hid (R3.out.alike b2)
          have HP := Lib.hid (R4.out.put (d' := dd.mem gone (kept ++ (k, first) :: l0.drop (i + 1))) rfl hlt (k, first) (.inl rfl))
          have SP := Lib.hid (R4.out.spare hlt)
          have V4 := Lib.hid (V2.out.rename HC.out.1 (List.mem_of_getElem? HC.out.2.1) hfg)
          have v0 := HP.out.2.cellz hnb3 ((b2.cell (p := ⟨nb, 0, none⟩) (lt_of_cell u0)).trans u0)
          have T4 := Lib.hid (R4.out.T.trans HP.out.2)
          have S4 := Lib.hid HP.out.1
          obtain ⟨g5, c5, a5⟩ := S4.out.at_wo (by have := V4.out.I.L.wo; have e : dd.wo.length = 2 * n := this; show 0 < dd.wo.length; omega)
          have hfw : dd.wo[first]? = some (wv dd.wo first) := wv_at (by have := V4.out.I.L.wo; have e : dd.wo.length = 2 * n := this; rw [e]; exact hfn)
          have f5 := a5.len_wo.1
          have l5 : dd.wo.length ≤ c5 := a5.len_wo.2
          have k5 := a5.cap
          have x5 := a5.wo hfw
          have z5 := S4.out.plt
          have f5' : ((W3.alloc (.cells #[.int .i32 (k : Int), .int .i32 (first : Int)] 211)).setCells g (kept.length * 2) [.int .i32 (k : Int), .int .i32 (first : Int)]).cell? ⟨p, 2, none⟩ = some (.slice (some ⟨g5, 0, none⟩) dd.wo.length c5) := f5
          have b7 : (0 : Int) ≤ (first : Int) := by omega
          have b8 : (first : Int) < (dd.wo.length : Int) := by have := V4.out.I.L.wo; have e : dd.wo.length = 2 * n := this; omega
          have x5' : ((W3.alloc (.cells #[.int .i32 (k : Int), .int .i32 (first : Int)] 211)).setCells g (kept.length * 2) [.int .i32 (k : Int), .int .i32 (first : Int)]).cell? ⟨g5, first, none⟩ = some (.int .i8 (wv dd.wo first)) := x5
          have v0' : ((W3.alloc (.cells #[.int .i32 (k : Int), .int .i32 (first : Int)] 211)).setCells g (kept.length * 2) [.int .i32 (k : Int), .int .i32 (first : Int)]).cell? ⟨nb, 0, none⟩ = some (.int .i32 (k : Int)) := v0
          have z5' : p < ((W3.alloc (.cells #[.int .i32 (k : Int), .int .i32 (first : Int)] 211)).setCells g (kept.length * 2) [.int .i32 (k : Int), .int .i32 (first : Int)]).heap.size := z5
          have S4 : Hid (Sr B τ1 ((W3.alloc (.cells #[.int .i32 (k : Int), .int .i32 (first : Int)] 211)).setCells g (kept.length * 2) [.int .i32 (k : Int), .int .i32 (first : Int)]) p n ((dd.mem gone (kept ++ (k, first) :: l0.drop (i + 1))).mem gone (kept ++ [(k, first)] ++ l0.drop (kept ++ [(k, first)]).length))) := S4
          have T4 : Hid (Stp τ τ1 w ((W3.alloc (.cells #[.int .i32 (k : Int), .int .i32 (first : Int)] 211)).setCells g (kept.length * 2) [.int .i32 (k : Int), .int .i32 (first : Int)])) := T4
          obtain ⟨yf, hyf⟩ : ∃ z, wv dd.wo first = z := ⟨_, rfl⟩
          rw [hyf] at x5'
          have HYF := Lib.hid (show wv (dd.mem gone (kept ++ (k, first) :: l0.drop (i + 1))).wo first = yf from hyf)
          have HYR := Lib.hid (show yf = -1 ∨ yf = 0 ∨ yf = 1 by rw [← hyf]; exact V4.out.I.T.w.rng first)
          clear hi0 hz0 hz1 hz2 b2 a5 hfw f5 x5 z5 v0 HP hyf R4 hne1
          rcases HYR.out with hy | hy | hy
          all_goals have HY := Lib.hid hy
          · have q1 : ¬ yf = 0 := by rw [hy]; decide
            have q2 : (yf == -1) = true := by rw [hy]; rfl
            clear hy
            go_wp2_with (at_builtin; refine wpList_append_in _ rfl _ _ _ rfl 211 i0 2 Tryz.underlying209 HI.out.1 HI.out.2.2.1 g 0 kept.length cap rfl ⟨W3.heap.size, 0, none⟩ 1 1 [.int .i32 (k : Int), .int .i32 (first : Int)] rfl rfl (World.news_of_block (cs := #[.int .i32 (k : Int), .int .i32 (first : Int)]) (t := 211) (fr := (0, 0)) (new_heap W3 _)) (by simp [Value.oneCell']) (by omega) SP.out ?_; rw [Nat.zero_add]; generalize (W3.alloc (.cells #[.int .i32 (k : Int), .int .i32 (first : Int)] 211)).setCells g (kept.length * 2) [.int .i32 (k : Int), .int .i32 (first : Int)] = W4 at *)
            have b4 : Below W4.heap.size W4 W4.drew := Below.draws (Below.refl _ _) 1
            obtain ⟨gw4, c1', z1', sp, src, c2', r2', c3', SF, TF⟩ := conf_fin (d := dd.mem gone (kept ++ (k, first) :: l0.drop (i + 1))) (kept := kept ++ [(k, first)]) (i := i) (S4.out.below b4) hg HQ.out.1 HQ.out.2.1 (by rw [List.length_append]; simp; omega) hlt
            have hkl2 : (kept ++ [(k, first)]).length = kept.length + 1 := by simp
            rw [hkl2] at sp c2' r2' c3' SF TF
            have SP2 := Lib.hid sp
            have SRC := Lib.hid src
            have hwl : (watCells (l0.drop (i + 1))).length = (l0.length - (i + 1)) * 2 := by rw [show (watCells (l0.drop (i + 1))).length = (l0.drop (i + 1)).length * 2 from flat_len wat_len _, List.length_drop]
            have HWL := Lib.hid hwl
            have H1C := Lib.hid (show ∀ u ∈ watCells (l0.drop (i + 1)), u.oneCell' = true from fun u hu => by
              unfold watCells at hu
              obtain ⟨a, _, ha⟩ := List.mem_flatMap.1 hu
              simp only [List.mem_cons, List.not_mem_nil, or_false] at ha
              rcases ha with rfl | rfl <;> rfl)
            have HF := Lib.hid (And.intro SF TF)
            have v0d : W4.drew.cell? ⟨nb, 0, none⟩ = some (.int .i32 (k : Int)) := v0'
            clear sp src SF TF hkl2 hwl b4
            have w63 : IntKind.i64.wrap ((i : Int) + 1) = (i : Int) + 1 := by rw [IntKind.wrap_i64]; omega
            have b9 : (0 : Int) ≤ (i : Int) + 1 := by omega
            have b10 : (i : Int) + 1 ≤ (l0.length : Int) := by omega
            have b11 : (l0.length : Int) ≤ (cap : Int) := by omega
            have b12 : (gone : Int) < 2 * (n : Int) := by omega
            have HFD : (dd.mem gone (kept ++ (k, first) :: l0.drop (i + 1))).mem gone (kept ++ [(k, first)] ++ l0.drop (i + 1)) = dd.mem gone (kept ++ (k, first) :: l0.drop (i + 1)) := by
              rw [show kept ++ [(k, first)] ++ l0.drop (i + 1) = (dd.mem gone (kept ++ (k, first) :: l0.drop (i + 1))).F gone by rw [V4.out.F, List.append_assoc]; rfl, mem_self]
            rw [HFD] at HF
            have HE := Lib.hid (show ∀ W : World, Sr B τ1 W p n { dd.mem gone (kept ++ (k, first) :: l0.drop (i + 1)) with gq := 2 * n, gv := .bool false } → Stp τ1 τ1 W4.drew W → ViPost B τ w p n K0 Mo d0 gone (.returned (.int .i32 (k : Int))) W ∧ W.cell? ⟨nb, 0, none⟩ = some (.int .i32 (k : Int)) from fun W hs ht => by
              have T5 : Stp τ τ1 w W4.drew := T4.out.alike rfl rfl rfl rfl
              refine ⟨⟨τ1, _, hs, T5.trans ht, V4.out.I.re _ _, (V4.out.re (2 * n) (.bool false)).V, rfl, HQ.out.2.2, .inr ⟨k, c1, rfl, HC.out.1, List.mem_of_getElem? HC.out.2.2, fun x hx => ?_, V4.out.P.less fun k' x he => .inl he.1⟩⟩, ht.cellz hnb3 v0d⟩
              obtain ⟨j, hj⟩ := List.getElem?_of_mem hx
              match j, hj with
              | 0, hj => rw [HC.out.2.1] at hj; injection hj with hj; rw [← hj]; exact HYF.out.trans HY.out
              | 1, hj => rw [HC.out.2.2] at hj; injection hj with hj; rw [← hj]; exact V4.out.gw
              | j + 2, hj =>
                rcases HNO.out with h | h
                · have e : wv dd.wo first = 1 := wv_of h
                  have e2 : wv dd.wo first = -1 := HYF.out.trans HY.out
                  omega
                · obtain ⟨z, hz, hz0⟩ := h (j + 2) x (by omega) hj
                  have e : wv dd.wo x = z := wv_of hz
                  have := V4.out.I.T.w.rng x
                  have e2 : wv dd.wo x = -1 ∨ wv dd.wo x = 0 ∨ wv dd.wo x = 1 := this
                  show wv dd.wo x = -1
                  omega)
            have HP2 := Lib.hid (HE.out _ HF.out.1 HF.out.2)
            have vE := HP2.out.2
            clear HE HF HFD
            generalize hnews : watCells (l0.drop (i + 1)) = news at *
            by_cases hcap : cap = i + 1
            · have hl1 : l0.length = i + 1 := by omega
              have hn0 : news = [] := by rw [← hnews, ← hl1, List.drop_length]; rfl
              have hz : kept.length + 1 + (l0.length - (i + 1)) = kept.length + 1 := by omega
              rw [hz] at HP2 vE
              subst hn0
              have c5 : W4.cell? ⟨gw4, gone, none⟩ = some (.slice (some ⟨g, 0, none⟩) l0.length cap) := c2'
              have r5 : W4.frozen? ⟨gw4, gone, none⟩ = false := r2'
              have c6 : W4.cell? ⟨p, 1, none⟩ = some (.slice (some ⟨gw4, 0, none⟩) (2 * n) (2 * n)) := c3'
              have HP3 : Hid (ViPost B τ w p n K0 Mo d0 gone (.returned (.int .i32 (k : Int))) ((W4.setCell ⟨gw4, gone, none⟩ (.slice (some ⟨g, 0, none⟩) (kept.length + 1) cap)).drew)) := HP2.out.1
              have vE : ((W4.setCell ⟨gw4, gone, none⟩ (.slice (some ⟨g, 0, none⟩) (kept.length + 1) cap)).drew).cell? ⟨nb, 0, none⟩ = some (.int .i32 (k : Int)) := vE
              clear hnews hl1 hz HP2 c2' r2' c3'
              subst hcap
              go_region_law (fail)
              all_goals
                go_wp2_with fail
                go_ret
                exact HP3.out
            · clear hnews
              go_region_law ((refine step_append_room (by rfl) _ _ _ (by rfl) 211 i0 2 Tryz.underlying209 HI.out.1 HI.out.2.2.1 g 0 (kept.length + 1) cap (by go_simp) ⟨g, (i + 1) * 2, none⟩ (l0.length - (i + 1)) (cap - (i + 1)) news (by go_simp) HWL.out (fun j u hu => by rw [Addr.add_lit]; exact SRC.out j u hu) H1C.out (by omega) (fun j hj => SP2.out j hj) ?_; rw [Nat.zero_add]))
              all_goals
                go_wp2_with fail
                go_ret
                exact HP2.out.1
          · have q1 : (yf == 0) = true := by rw [hy]; rfl
            have q2 : ¬ yf = -1 := by rw [hy]; decide
            clear hy
            go_wp2_with (at_builtin; refine wpList_append_in _ rfl _ _ _ rfl 211 i0 2 Tryz.underlying209 HI.out.1 HI.out.2.2.1 g 0 kept.length cap rfl ⟨W3.heap.size, 0, none⟩ 1 1 [.int .i32 (k : Int), .int .i32 (first : Int)] rfl rfl (World.news_of_block (cs := #[.int .i32 (k : Int), .int .i32 (first : Int)]) (t := 211) (fr := (0, 0)) (new_heap W3 _)) (by simp [Value.oneCell']) (by omega) SP.out ?_; rw [Nat.zero_add]; generalize (W3.alloc (.cells #[.int .i32 (k : Int), .int .i32 (first : Int)] 211)).setCells g (kept.length * 2) [.int .i32 (k : Int), .int .i32 (first : Int)] = W4 at *)
            (with_reducible refine (hold_lit S4.out (V4.out.I.L.mem _ _) hfn (k : Int)).mono ?_)
            rintro e W5 ⟨rfl, τ3, hs, ht⟩
            have HN := Lib.hid (show ViR B τ w p n K0 Mo d0 gone l0 (some ⟨g, 0, none⟩) cap (i + 1) (kept ++ [(k, first)]) ((dd.mem gone (kept ++ (k, first) :: l0.drop (i + 1))).held first (k : Int)) τ3 W5 by
              refine ⟨V4.out.hold HC.out.1 (HYF.out.trans HY.out) fun x hx hne => ?_, hs, T4.out.trans ht, by rw [List.length_append]; simp; omega, hlt, HQ.out.1, HQ.out.2.1, HQ.out.2.2⟩
              obtain ⟨j, hj⟩ := List.getElem?_of_mem hx
              match j, hj with
              | 0, hj => rw [HC.out.2.1] at hj; injection hj with hj; exact absurd hj.symm hne
              | 1, hj => rw [HC.out.2.2] at hj; injection hj with hj; rw [← hj]; exact V4.out.gw
              | j + 2, hj =>
                rcases HNO.out with h | h
                · have e : wv dd.wo first = 1 := wv_of h
                  have e2 : wv dd.wo first = 0 := HYF.out.trans HY.out
                  omega
                · obtain ⟨z, hz, hz0⟩ := h (j + 2) x (by omega) hj
                  have e : wv dd.wo x = z := wv_of hz
                  have := V4.out.I.T.w.rng x
                  have e2 : wv dd.wo x = -1 ∨ wv dd.wo x = 0 ∨ wv dd.wo x = 1 := this
                  show wv dd.wo x = -1
                  omega)
            clear hs ht S4 T4 f5' x5'
            go_wp2_with fail
            go_roundw
            case rel => exact ⟨i + 1, kept ++ [(k, first)], _, τ3, by go_num, by simp, hlt, by rw [List.length_append]; simp; omega, HN⟩
            case measure => simp [intOf]; omega
          · have q1 : ¬ yf = 0 := by rw [hy]; decide
            have q2 : ¬ yf = -1 := by rw [hy]; decide
            clear hy
            go_wp2_with (at_builtin; refine wpList_append_in _ rfl _ _ _ rfl 211 i0 2 Tryz.underlying209 HI.out.1 HI.out.2.2.1 g 0 kept.length cap rfl ⟨W3.heap.size, 0, none⟩ 1 1 [.int .i32 (k : Int), .int .i32 (first : Int)] rfl rfl (World.news_of_block (cs := #[.int .i32 (k : Int), .int .i32 (first : Int)]) (t := 211) (fr := (0, 0)) (new_heap W3 _)) (by simp [Value.oneCell']) (by omega) SP.out ?_; rw [Nat.zero_add]; generalize (W3.alloc (.cells #[.int .i32 (k : Int), .int .i32 (first : Int)] 211)).setCells g (kept.length * 2) [.int .i32 (k : Int), .int .i32 (first : Int)] = W4 at *)
            go_roundw
            case rel => exact ⟨i + 1, kept ++ [(k, first)], _, τ1, by go_num, by simp, hlt, by rw [List.length_append]; simp; omega, ⟨V4.out.keep (HYF.out.trans HY.out), S4.out, T4.out, by rw [List.length_append]; simp; omega, hlt, HQ.out.1, HQ.out.2.1, HQ.out.2.2⟩⟩
            case measure => simp [intOf]; omega
        · have HN := Lib.hid (show ∃ d', ViR B τ w p n K0 Mo d0 gone l0 (some ⟨g, 0, none⟩) cap (i + 1) kept d' τ2 W3 by
            have nqg : q ≠ gone := V2.out.ne HC.out.1 (by omega) hjq HC.out.2.2
            rw [moved_mem (l' := kept ++ l0.drop (i + 1)) nqg] at hs
            refine ⟨_, V2.out.move HC.out.1 HC.out.2.1 HC.out.2.2 hj hjq (by have := wv_of hyq; show 0 ≤ wv dd.wo q; have e : wv dd.wo q = yq := this; omega), hs, R2.out.T.trans ht, by omega, hlt, HQ.out.1, HQ.out.2.1, HQ.out.2.2⟩)
          clear hs ht hj hjq hyq hyq0 CM
          go_wp2_with fail
          go_roundw
          case rel =>
            obtain ⟨d', hd⟩ := HN.out
            exact ⟨i + 1, kept, d', τ2, by go_num, rfl, hlt, by omega, hd⟩
          case measure => simp [intOf]; omega
    · obtain rfl : i = l0.length := by omega
      obtain ⟨gw3, hW⟩ := R.out.wat
      have e1 := hW.head
      have e2 := hW.at_
      have e3 := hW.wfree
      have e4 := hW.wlt
      have e5 := R.out.R.plt
      have hlen := R.out.len
      obtain ⟨r1, t1⟩ := R.out.R.finF hg hW (m := kept.length) (by rw [hlen]; omega)
      rw [List.take_left] at r1
      have hV := R.out.V
      rw [List.drop_length] at hV
      have e6 : d.mem gone kept = d := by
        rw [show kept = d.F gone by rw [hV.F, List.append_nil], mem_self]
      rw [e6] at r1
      have HE : Hid (ViPost B τ w p n K0 Mo d0 gone (.returned (.int .i32 (-1))) (wr.setCell ⟨gw3, gone, none⟩ (.slice (some ⟨g, 0, none⟩) kept.length cap))) :=
        ⟨τ', _, r1, R.out.T.trans t1, hV.I.re _ _, (hV.re (2 * n) (.bool false)).V, rfl, R.out.nx, .inl ⟨rfl, hV.done⟩⟩
      have b12 : (gone : Int) < 2 * (n : Int) := by omega
      clear f1 f2 z1 hW r1 t1 hV e6 hlen
      go_wp2_with fail
      go_ret
      exact HE.out
end
end Go.Proofs.YtpmdnbdmocdngaaGreat

namespace Go.Proofs.YtpmdnbdmocdngaaGreat
open Go.ChangeShapes Go.WideShapes Go.ChangeAt Go.RowKit
set_option linter.unusedVariables false
set_option linter.unusedSimpArgs false

section
variable {B : Nat} {τ τ' : Nat → Nat} {w wr : World} {p n gone i cap : Nat} {d d0 : Sd} {K0 : Nat → Prop} {Mo : (Nat → Bool) → Prop} {l0 kept : List (Nat × Nat)} {A : Option Addr}
set_option maxHeartbeats 3200000 in
set_option maxRecDepth 4000 in
theorem visit_none (h : Sr B τ w p n d0) (v : Vs n K0 Mo d0 d0 gone [] (d0.F gone)) {gw : Nat} (hw : Wat τ w p n gone (d0.F gone) gw none cap) :
    Calls Tryz.prog 92 #[ptr p, .int .i32 (gone : Int)] w (ViPost B τ w p n K0 Mo d0 gone) := by
  have hn := v.I.L.nb
  have hg := v.g
  obtain ⟨hl0, hc0⟩ : (d0.F gone).length = 0 ∧ cap = 0 := by
    rcases hw.own.2 with ⟨h0, _⟩ | ⟨g', cap', cur, h0, _⟩
    · injection h0 with _ h1 h2; exact ⟨h1, h2⟩
    · cases h0
  have hF : d0.F gone = [] := List.eq_nil_of_length_eq_zero hl0
  have hw2 := hw
  rw [hF] at hw2
  rw [← mem_self d0 gone, hF] at h
  obtain ⟨r1, t1⟩ := h.finF hg hw2 (m := 0) (Nat.zero_le _)
  have e0 : d0.mem gone (([] : List (Nat × Nat)).take 0) = d0 := by rw [show ([] : List (Nat × Nat)).take 0 = d0.F gone by rw [hF]; rfl, mem_self]
  rw [e0] at r1
  rw [hF] at v
  have HE : Hid (ViPost B τ w p n K0 Mo d0 gone (.returned (.int .i32 (-1))) (w.setCell ⟨gw, gone, none⟩ (.slice none 0 cap))) :=
    ⟨τ, _, r1, t1, v.I.re _ _, (v.re (2 * n) (.bool false)).V, rfl, rfl, .inl ⟨rfl, v.done⟩⟩
  subst hc0
  have f1 := hw2.head
  have f2 : w.cell? ⟨gw, gone, none⟩ = some (.slice none 0 0) := hw2.at_
  have f3 := hw2.wfree
  have z1 := hw2.wlt
  have zp := h.plt
  have b1 : (0 : Int) ≤ (gone : Int) := by omega
  have b2 : (gone : Int) < ((2 * n : Nat) : Int) := by omega
  have b12 : (gone : Int) < 2 * (n : Int) := by omega
  clear h v hw hw2 hF hl0 r1 t1 e0
  go_enter Tryz.func92, Tryz.ntmps92
  go_wp2_with fail
  go_loopw [6, 22] (fun kv iv wr => iv = .int .i64 0 ∧ kv = .slice none 0 0 ∧ wr = w) (fun _ iv _ => 0 - (intOf iv).toNat)
  case atStart => exact ⟨rfl, rfl, rfl⟩
  case round =>
    obtain ⟨rfl, rfl, rfl⟩ := hrel
    go_wp2_with fail
    go_ret
    exact HE.out
theorem visit_any (h : Sr B τ w p n d0) (v : Vs n K0 Mo d0 d0 gone [] (d0.F gone)) :
    Calls Tryz.prog 92 #[ptr p, .int .i32 (gone : Int)] w (ViPost B τ w p n K0 Mo d0 gone) := by
  obtain ⟨gw, A, cap, hw⟩ := h.wat v.g
  rcases A with _ | a
  · exact visit_none h v hw
  · obtain ⟨g, rfl⟩ : ∃ g, a = ⟨g, 0, none⟩ := by
      rcases hw.own.2 with ⟨h0, _⟩ | ⟨g', cap', cur, h0, _⟩
      · cases h0
      · injection h0 with h0 _ _; injection h0 with h0; exact ⟨g', h0⟩
    exact visit_some h v hw
end
end Go.Proofs.YtpmdnbdmocdngaaGreat

namespace Go.Proofs.YtpmdnbdmocdngaaGreat
open Go.ChangeShapes Go.WideShapes Go.ChangeAt Go.RowKit
set_option linter.unusedVariables false
set_option linter.unusedSimpArgs false

/-- What a clash is: a claim whose literals are all gone, and where it was met. -/
structure Cf (n : Nat) (d : Sd) (k : Nat) (c : Cl) (gone : Nat) : Prop where
  at_ : d.cls[k]? = some c
  mem : gone ∈ c.ls
  all : ∀ q ∈ c.ls, wv d.wo q = -1
  pr : Pr d (fun _ x => x = gone)
  pos : ∃ j, d.tr[j]? = some (oth gone) ∧ j + 1 = d.nx ∧ ∀ m ∈ d.ma, m ≤ j
def FoPost (B : Nat) (τ : Nat → Nat) (w : World) (p n : Nat) (K0 : Nat → Prop) (Mo : (Nat → Bool) → Prop) (d0 : Sd) (e : Ending) (w' : World) : Prop :=
  ∃ τ' d, Sr B τ' w' p n d ∧ Stp τ τ' w w' ∧ Iv n K0 Mo d ∧ Fol d0 d ∧ 2 * n ≤ d.gq ∧ ((e = .returned (.int .i32 (-1)) ∧ d.nx = d.tr.length ∧ Pr d (fun _ _ => False)) ∨ ∃ (k : Nat) (c : Cl) (gone : Nat), e = .returned (.int .i32 (k : Int)) ∧ Cf n d k c gone)
structure FoR (B : Nat) (τ : Nat → Nat) (w : World) (p n : Nat) (K0 : Nat → Prop) (Mo : (Nat → Bool) → Prop) (d0 : Sd) (d : Sd) (τ' : Nat → Nat) (wr : World) : Prop where
  R : Sr B τ' wr p n d
  T : Stp τ τ' w wr
  I : Iv n K0 Mo d
  V : Fol d0 d
  P : Pr d (fun _ _ => False)
  gq : 2 * n ≤ d.gq
section
variable {B : Nat} {τ τ' : Nat → Nat} {w wr : World} {p n gone i cap : Nat} {d d0 : Sd} {K0 : Nat → Prop} {Mo : (Nat → Bool) → Prop}
set_option maxHeartbeats 3200000 in
theorem dfollow_any (h : Sr B τ w p n d0) (v : Iv n K0 Mo d0) (pr : Pr d0 (fun _ _ => False)) (hgq : 2 * n ≤ d0.gq) :
    Calls Tryz.prog 64 #[ptr p] w (FoPost B τ w p n K0 Mo d0) := by
  have hn := v.L.nb
  have HR0 : Hid (FoR B τ w p n K0 Mo d0 d0 τ w) := ⟨h, Stp.refl _ _, v, Fol.refl _, pr, hgq⟩
  clear h v pr hgq
  go_enter Tryz.func64, Tryz.ntmps64
  go_wp2_with fail
  go_loopw [] (fun wr => ∃ (d : Sd) (τ' : Nat → Nat), Hid (FoR B τ w p n K0 Mo d0 d τ' wr)) (fun wr => n - (intOf ((wr.cell? ⟨p, 5, none⟩).getD default)).toNat)
  case atStart => exact ⟨d0, τ, HR0⟩
  case round =>
    obtain ⟨d, τ', R⟩ := hrel
    clear HR0
    have f5 := R.out.R.get_nx
    have hnx := R.out.I.T.nx
    have htl := R.out.I.L.tr
    have zp := R.out.R.plt
    have rp := R.out.R.pfree
    by_cases hlt : d.nx < d.tr.length
    · obtain ⟨q, hq⟩ : ∃ q, d.tr[d.nx]? = some q := ⟨_, List.getElem?_eq_getElem hlt⟩
      obtain ⟨g, c3, a3⟩ := R.out.R.at_tr (by omega)
      have f3 := a3.len_tr.1
      have l3 := a3.len_tr.2
      have k3 := a3.cap
      have x3 := a3.tr hq
      have z3 := a3.lt
      have hql := R.out.I.T.tl q (List.mem_of_getElem? hq)
      have CO := Lib.hid (fun W => loth_any q W (by omega))
      have HS := Lib.hid (show ∀ W : World, W.heap = wr.heap → W.os = wr.os → W.tape = wr.tape → W.output = wr.output → Sr B τ' (W.setCell ⟨p, 5, none⟩ (.int .i64 ((d.nx : Int) + 1))) p n { d with nx := d.nx + 1 } ∧ Stp τ τ' w (W.setCell ⟨p, 5, none⟩ (.int .i64 ((d.nx : Int) + 1))) from fun W e1 e2 e3 e4 => by
        have := (R.out.R.alike e1 e2 e3 e4).set_nx (d.nx + 1)
        rw [show ((d.nx + 1 : Nat) : Int) = (d.nx : Int) + 1 by omega] at this
        exact ⟨this.1, (R.out.T.alike e1 e2 e3 e4).trans this.2⟩)
      have HV := Lib.hid (show ∀ W : World, Sr B τ' W p n { d with nx := d.nx + 1 } → Calls Tryz.prog 92 #[ptr p, .int .i32 (oth q : Int)] W (ViPost B τ' W p n K0 Mo { d with nx := d.nx + 1 } (oth q)) from fun W hs => by
        have vs := Vs.start R.out.I R.out.P hq
        exact visit_any hs ⟨vs.I, vs.P, vs.F, Fol.refl _, vs.g, vs.gw, vs.gd⟩)
      have HQ := Lib.hid hq
      have b1 : (d.nx : Int) < (d.tr.length : Int) := by omega
      have b2 : (0 : Int) ≤ (d.nx : Int) := by omega
      have w63 : IntKind.i64.wrap ((d.nx : Int) + 1) = (d.nx : Int) + 1 := by rw [IntKind.wrap_i64]; omega
      clear a3 hq
      go_wp2_with fail
      go_quiet (fail)
      go_wp2_with fail
      go_quiet ((go_at_call 91; first | (with_reducible exact calm_one CO.out) | (with_reducible exact calm_two CO.out)))
      go_wp2_with fail
      (with_reducible refine (HV.out _ (HS.out (wr.drewN _) rfl rfl rfl rfl).1).mono ?_)
      rintro e W3 ⟨τ2, d2, hs, ht, hi, hf, hgq2, hnx2, hr⟩
      have HT := Lib.hid ((HS.out (wr.drewN _) rfl rfl rfl rfl).2.trans ht)
      have HF := Lib.hid (show Fol d0 d2 from R.out.V.trans ((show Fol d { d with nx := d.nx + 1 } from ⟨CP.refl _, ⟨[], by simp⟩, fun _ h _ => h, _, _, _, _, _, _, _, _, _, rfl⟩).trans hf))
      have hg2 : 2 * n ≤ d2.gq := by omega
      rcases hr with ⟨rfl, pr⟩ | ⟨k, c, rfl, hc, hmem, hall, hpr⟩
      · have HR : Hid (FoR B τ w p n K0 Mo d0 d2 τ2 W3) := ⟨hs, HT.out, hi, HF.out, pr, hg2⟩
        have f5b := hs.get_nx
        have hnx3 : d2.nx = d.nx + 1 := hnx2
        rw [hnx3] at f5b
        have HM : Hid (n - (intOf ((W3.cell? ⟨p, 5, none⟩).getD default)).toNat < n - (intOf ((wr.cell? ⟨p, 5, none⟩).getD default)).toNat) := by
          rw [show W3.cell? ⟨p, 5, none⟩ = _ from f5b, show wr.cell? ⟨p, 5, none⟩ = _ from f5]
          show n - (((d.nx + 1 : Nat) : Int)).toNat < n - ((d.nx : Int)).toNat
          omega
        clear hs ht hi hf pr HV HS f5b hnx2 hnx3
        go_wp2_with fail
        go_roundw
        case rel => exact ⟨d2, τ2, HR⟩
        case measure => exact HM.out
      · have HE : Hid (FoPost B τ w p n K0 Mo d0 (.returned (.int .i32 (k : Int))) W3) := by
          refine ⟨τ2, d2, hs, HT.out, hi, HF.out, hg2, .inr ⟨k, c, oth q, rfl, hc, hmem, hall, hpr, d.nx, ?_, hnx2.symm, ?_⟩⟩
          · obtain ⟨ext, he⟩ := hf.tr
            have he : d2.tr = d.tr ++ ext := he
            rw [oth_oth, he, List.getElem?_append_left hlt]
            exact HQ.out
          · obtain ⟨_, _, _, _, _, _, _, _, _, e⟩ := hf.same
            have e2 : d2.ma = d.ma := by rw [e]
            rw [e2]
            exact R.out.I.T.mx
        have kn : ((k : Int) == -1) = false := beq_eq_false_iff_ne.2 (by omega)
        have kn2 : ¬ (k : Int) = -1 := by omega
        clear hs ht hi hf hpr hall hc HV HS hnx2
        go_wp2_with fail
        go_ret
        exact HE.out
    · obtain ⟨AT, ct, f3, hA⟩ := R.out.R.head_tr
      have HE : Hid (∀ W : World, W.heap = wr.heap → W.os = wr.os → W.tape = wr.tape → W.output = wr.output → FoPost B τ w p n K0 Mo d0 (.returned (.int .i32 (-1))) W) := fun W e1 e2 e3 e4 => ⟨τ', d, R.out.R.alike e1 e2 e3 e4, R.out.T.alike e1 e2 e3 e4, R.out.I, R.out.V, R.out.gq, .inl ⟨rfl, by omega, R.out.P⟩⟩
      have b1 : ¬ (d.nx : Int) < (d.tr.length : Int) := by omega
      clear hA
      go_wp2_with fail
      go_quiet (fail)
      go_wp2_with fail
      go_ret
      exact HE.out _ rfl rfl rfl rfl
end
end Go.Proofs.YtpmdnbdmocdngaaGreat
