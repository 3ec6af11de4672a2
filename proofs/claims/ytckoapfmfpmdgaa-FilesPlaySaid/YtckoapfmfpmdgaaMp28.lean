/-
  Parts of the proof, joined: FileYs, FileO, FileY.
-/
import Derived.Test.YtckoapfmfpmdgaaMp27
import Derived.Test.YtckoapfmfpmdgaaMp15
import Derived.Test.YtckoapfmfpmdgaaMp14
import Derived.Test.YtckoapfmfpmdgaaMp26

namespace Go.Proofs.Ytckoapfmfpmdgaa
open Go.ChangeShapes Go.WideShapes Go.ChangeAt Go.RowKit Go.Joins
set_option linter.unusedVariables false
set_option linter.unusedSimpArgs false

structure Fwf (es : List (List UInt8 × Bool)) (dt : List (List UInt8)) (ds : List Fdd) : Prop where
  de : ds.length ≤ 151
  da : dt.length ≤ 101
  en : es.length ≤ 101
  dd : ∀ d ∈ ds, d.b.length ≤ 100 ∧ d.p.size ≤ 100 ∧ d.q.size ≤ 100
  dl : ∀ l ∈ dt, l.length ≤ 1000
  ee : ∀ e ∈ es, e.1.length ≤ 100
abbrev SfP (es : List (List UInt8 × Bool)) (dt : List (List UInt8)) (ds : List Fdd) (W : World) (e : Ending) (W' : World) : Prop := ∃ b, e = .returned (.bool b) ∧ W' = W ∧ (b = true → Fwf es dt ds)
theorem sf_no {es : List (List UInt8 × Bool)} {dt : List (List UInt8)} {ds : List Fdd} {W : World} : SfP es dt ds W (.returned (.bool false)) W := ⟨false, rfl, rfl, fun h => by cases h⟩
theorem ftake_next {α : Type} {P : α → Prop} {l : List α} {k : Nat} {a : α} (h : l[k]? = some a) (H : ∀ d ∈ l.take k, P d) (ha : P a) : ∀ d ∈ l.take (k + 1), P d := by
  obtain ⟨hi, he⟩ := List.getElem?_eq_some_iff.1 h
  intro d hd
  rw [List.take_succ_eq_append_getElem hi, he] at hd
  rcases List.mem_append.1 hd with hd | hd
  · exact H d hd
  · rw [List.mem_singleton.1 hd]; exact ha
set_option maxRecDepth 100000 in
set_option maxHeartbeats 8000000 in
theorem fsmall_any {W : World} {x u y : Value} {es : List (List UInt8 × Bool)} {dt : List (List UInt8)} {ds : List Fdd} (hx : EntAt W x es) (hes : es.length ≤ 9223372036854775807) (A2 : Option Addr) (c2 : Nat) (hu : u = .slice A2 dt.length c2) (hdt : dt.length ≤ 9223372036854775807)
    (hU : ∀ (i : Nat) (l : List UInt8), dt[i]? = some l → ∃ g off y, A2 = some ⟨g, off, none⟩ ∧ W.cell? ⟨g, off + i, none⟩ = some y ∧ BtA W y l) (hy : FddAt W y ds) :
    Calls Try.prog 29 #[x, u, y] W (SfP es dt ds W) := by
  obtain ⟨A, ca, rfl, hE⟩ := hx
  obtain ⟨B, cb, rfl, _, hds, hD⟩ := hy
  subst hu
  have hds : ds.length ≤ 9223372036854775807 := by omega
  obtain ⟨N, hN⟩ : ∃ N, N = ds.length := ⟨_, rfl⟩
  obtain ⟨M, hM⟩ : ∃ M, M = es.length := ⟨_, rfl⟩
  obtain ⟨Q, hQ⟩ : ∃ Q, Q = dt.length := ⟨_, rfl⟩
  have HN := Lib.hid hN
  have HM := Lib.hid hM
  have HQ := Lib.hid hQ
  have HE := Lib.hid hE
  have HD := Lib.hid hD
  have HU := Lib.hid hU
  rw [← hN] at hds ⊢
  rw [← hM] at hes ⊢
  rw [← hQ] at hdt ⊢
  clear hN hM hQ hE hD hU
  go_enter Try.func29, Try.ntmps29
  go_upto_region 2 with fail
  go_loopw [7] (fun i wr => ∃ k : Nat, k ≤ N ∧ i = .int .i64 k ∧ W = wr ∧ Hid (k ≤ 151 ∧ ∀ d ∈ ds.take k, d.b.length ≤ 100 ∧ d.p.size ≤ 100 ∧ d.q.size ≤ 100)) (fun i _ => N - (intOf i).toNat)
  case atStart => exact ⟨0, by omega, rfl, rfl, by omega, fun d hd => by simp at hd⟩
  case round =>
    obtain ⟨k, hk, rfl, rfl, HK⟩ := hrel
    by_cases hlt : k < N
    · obtain ⟨d, hd⟩ : ∃ d, ds[k]? = some d := ⟨_, List.getElem?_eq_getElem (by rw [← HN.out]; exact hlt)⟩
      obtain ⟨g, off, yv, rfl, _, d0, d1, d2, d3, hb, d4, d5, _, _⟩ := HD.out k d hd
      obtain ⟨⟨Ay, cy, rfl, _, _, _⟩, _⟩ := hb
      have HNX := Lib.hid (fun (h1 : k ≤ 150) (h2 : d.b.length ≤ 100 ∧ d.p.size ≤ 100 ∧ d.q.size ≤ 100) => And.intro (show k + 1 ≤ 151 by omega) (ftake_next (P := fun d => d.b.length ≤ 100 ∧ d.p.size ≤ 100 ∧ d.q.size ≤ 100) hd HK.out.2 h2))
      obtain ⟨dk, dfd, dn, b, p, q⟩ := d
      simp only at d0 d1 d2 d3 d4 d5 HNX
      clear hd d0 d1 d2
      generalize b.length = lb at *
      by_cases h1 : 150 < k
      · have e1 : decide ((150 : Int) < (k : Int)) = true := decide_eq_true (by omega)
        go_wp2
        go_ret
        exact sf_no
      have e1 : decide ((150 : Int) < (k : Int)) = false := decide_eq_false (by omega)
      by_cases h2 : 100 < lb
      · have e2 : decide ((100 : Int) < (lb : Int)) = true := decide_eq_true (by omega)
        go_wp2
        go_ret
        exact sf_no
      have e2 : decide ((100 : Int) < (lb : Int)) = false := decide_eq_false (by omega)
      by_cases h3 : 100 < p.size
      · have e3 : decide ((100 : Int) < (p.size : Int)) = true := decide_eq_true (by omega)
        go_wp2
        go_ret
        exact sf_no
      have e3 : decide ((100 : Int) < (p.size : Int)) = false := decide_eq_false (by omega)
      by_cases h4 : 100 < q.size
      · have e4 : decide ((100 : Int) < (q.size : Int)) = true := decide_eq_true (by omega)
        go_wp2
        go_ret
        exact sf_no
      have e4 : decide ((100 : Int) < (q.size : Int)) = false := decide_eq_false (by omega)
      go_wp2
      go_roundw
      case rel => exact ⟨k + 1, by omega, by go_num, trivial, HNX.out (by omega) ⟨by omega, by omega, by omega⟩⟩
      case measure => simp [intOf]; omega
    · have hkN : k = N := by omega
      have HDS : Hid (ds.length ≤ 151 ∧ ∀ d ∈ ds, d.b.length ≤ 100 ∧ d.p.size ≤ 100 ∧ d.q.size ≤ 100) := by
        have := HK.out
        rw [hkN, HN.out, List.take_length] at this
        exact this
      have hlt' : decide ((k : Int) < (N : Int)) = false := decide_eq_false (by omega)
      clear HK hkN
      go_upto_region 7 with fail
      go_loopw [8] (fun i wr => ∃ k : Nat, k ≤ Q ∧ i = .int .i64 k ∧ W = wr ∧ Hid (k ≤ 101 ∧ ∀ l ∈ dt.take k, l.length ≤ 1000)) (fun i _ => Q - (intOf i).toNat)
      case atStart => exact ⟨0, by omega, rfl, rfl, by omega, fun d hd => by simp at hd⟩
      case round =>
        obtain ⟨m, hm, rfl, rfl, HK⟩ := hrel
        by_cases hml : m < Q
        · obtain ⟨l, hl⟩ : ∃ l, dt[m]? = some l := ⟨_, List.getElem?_eq_getElem (by rw [← HQ.out]; exact hml)⟩
          obtain ⟨g, off, yv, rfl, d0, Ay, cy, rfl, _⟩ := HU.out m l hl
          have HNX := Lib.hid (fun (h1 : m ≤ 100) (h2 : l.length ≤ 1000) => And.intro (show m + 1 ≤ 101 by omega) (ftake_next (P := fun l : List UInt8 => l.length ≤ 1000) hl HK.out.2 h2))
          clear hl
          generalize l.length = ll at *
          by_cases h1 : 100 < m
          · have e1 : decide ((100 : Int) < (m : Int)) = true := decide_eq_true (by omega)
            go_wp2
            go_ret
            exact sf_no
          have e1 : decide ((100 : Int) < (m : Int)) = false := decide_eq_false (by omega)
          by_cases h2 : 1000 < ll
          · have e2 : decide ((1000 : Int) < (ll : Int)) = true := decide_eq_true (by omega)
            go_wp2
            go_ret
            exact sf_no
          have e2 : decide ((1000 : Int) < (ll : Int)) = false := decide_eq_false (by omega)
          go_wp2
          go_roundw
          case rel => exact ⟨m + 1, by omega, by go_num, trivial, HNX.out (by omega) (by omega)⟩
          case measure => simp [intOf]; omega
        · have hmQ : m = Q := by omega
          have HDT : Hid (dt.length ≤ 101 ∧ ∀ l ∈ dt, l.length ≤ 1000) := by
            have := HK.out
            rw [hmQ, HQ.out, List.take_length] at this
            exact this
          have hml' : decide ((m : Int) < (Q : Int)) = false := decide_eq_false (by omega)
          clear HK hmQ
          go_upto_region 12 with fail
          go_loopw [9] (fun i wr => ∃ k : Nat, k ≤ M ∧ i = .int .i64 k ∧ W = wr ∧ Hid (k ≤ 101 ∧ ∀ e ∈ es.take k, e.1.length ≤ 100)) (fun i _ => M - (intOf i).toNat)
          case atStart => exact ⟨0, by omega, rfl, rfl, by omega, fun d hd => by simp at hd⟩
          case round =>
            obtain ⟨j, hj, rfl, rfl, HK⟩ := hrel
            by_cases hjl : j < M
            · obtain ⟨e, he⟩ : ∃ e, es[j]? = some e := ⟨_, List.getElem?_eq_getElem (by rw [← HM.out]; exact hjl)⟩
              obtain ⟨g, off, rfl, d0, d1, _⟩ := HE.out j e he
              have HNX := Lib.hid (fun (h1 : j ≤ 100) (h2 : e.1.length ≤ 100) => And.intro (show j + 1 ≤ 101 by omega) (ftake_next (P := fun e : List UInt8 × Bool => e.1.length ≤ 100) he HK.out.2 h2))
              obtain ⟨p, dd⟩ := e
              simp only at d0 HNX
              have hps := bs_size p
              have HPS := Lib.hid hps
              generalize bs p = sp at *
              clear he d1 hps
              by_cases h1 : 100 < j
              · have e1 : decide ((100 : Int) < (j : Int)) = true := decide_eq_true (by omega)
                go_wp2
                go_ret
                exact sf_no
              have e1 : decide ((100 : Int) < (j : Int)) = false := decide_eq_false (by omega)
              by_cases h2 : 100 < sp.size
              · have e2 : decide ((100 : Int) < (sp.size : Int)) = true := decide_eq_true (by omega)
                go_wp2
                go_ret
                exact sf_no
              have e2 : decide ((100 : Int) < (sp.size : Int)) = false := decide_eq_false (by omega)
              go_wp2
              go_roundw
              case rel => exact ⟨j + 1, by omega, by go_num, trivial, HNX.out (by omega) (by have := HPS.out; omega)⟩
              case measure => simp [intOf]; omega
            · have hjM : j = M := by omega
              have HES : Hid (es.length ≤ 101 ∧ ∀ e ∈ es, e.1.length ≤ 100) := by
                have := HK.out
                rw [hjM, HM.out, List.take_length] at this
                exact this
              have hjl' : decide ((j : Int) < (M : Int)) = false := decide_eq_false (by omega)
              clear HK hjM
              go_wp2
              go_ret
              exact ⟨true, rfl, rfl, fun _ => ⟨HDS.out.1, HDT.out.1, HES.out.1, HDS.out.2, HDT.out.2, HES.out.2⟩⟩
end Go.Proofs.Ytckoapfmfpmdgaa

namespace Go.Proofs.Ytckoapfmfpmdgaa
open Go.ChangeShapes Go.WideShapes Go.ChangeAt Go.RowKit Go.Joins
set_option linter.unusedVariables false
set_option linter.unusedSimpArgs false

def fdJ (j : Nat) : List Int := List.replicate j (-1) ++ List.replicate (4 - j) 0
theorem fdJ_set {j : Nat} (h : j < 4) : (fdJ j).set j (-1) = fdJ (j + 1) := by
  match j, h with
  | 0, _ => rfl
  | 1, _ => rfl
  | 2, _ => rfl
  | 3, _ => rfl
theorem fdJ_get {j : Nat} (h : j < 4) : (fdJ j)[j]? = some 0 := by
  match j, h with
  | 0, _ => rfl
  | 1, _ => rfl
  | 2, _ => rfl
  | 3, _ => rfl
set_option maxRecDepth 100000 in
set_option maxHeartbeats 16000000 in
theorem rnewf_any {bz : Nat} {W : World} {v dv : Value} {es : List (List UInt8 × Bool)} {data : List (List UInt8)} (hv : EntAt W v es) (hd : DatAt bz W dv data) (hbz : bz ≤ W.heap.size)
    (hsm : ∀ e ∈ es, e.1.length ≤ 140737488351232) (hlen : es.length ≤ 4611686018427387904) (hdl : data.length ≤ 4611686018427387904) :
    Calls Try.prog 31 #[v, dv] W fun e W' => NfP bz W es data e W' := by
  obtain ⟨i0, hi1, hi2, hi3, hi4⟩ := info_bs
  have HI := Lib.hid (And.intro hi1 (And.intro hi2 (And.intro hi3 hi4)))
  clear hi1 hi2 hi3 hi4
  have hm8 : Hid (maxLen = 9223372036854775807) := rfl
  have NT := new_any hv hsm hlen
  clear hsm
  obtain ⟨A, cap, rfl, hc⟩ := hv
  obtain ⟨B, capB, rfl, hdd⟩ := hd
  have HC := Lib.hid hc
  have HD := Lib.hid hdd
  have HBZ := Lib.hid hbz
  clear hc hdd
  cases hnt : newT es with
  | none =>
    have NT' : Calls Try.prog 18 #[.slice A es.length cap] W fun e W' => e = .returned (.tuple #[.pointer none, .int .i64 11]) ∧ Gw W W' := NT.mono (fun e w1 h => by unfold NwP at h; rw [hnt] at h; exact h)
    have HB : Hid (newF es data = .inl 11) := by show _ = _; unfold newF; rw [hnt]
    clear NT hnt
    go_enter Try.func31, Try.ntmps31
    go_wp2_with (go_at_call 18; with_reducible refine NT'.mono ?_; rintro e w1 ⟨rfl, G1⟩)
    go_ret2
    exact nf_bad HB.out G1
  | some t =>
    have NT' : Calls Try.prog 18 #[.slice A es.length cap] W fun e W' => ∃ g sl, e = .returned (.tuple #[.pointer (some ⟨g, 0, none⟩), .int .i64 0]) ∧ Hid (Gw W W') ∧ Hid (RT W.heap.size W' g sl t) ∧ Hid (∀ b, sl.ownBlock = some b → W.heap.size ≤ b) :=
      NT.mono (fun e w1 h => by
        unfold NwP at h
        rw [hnt] at h
        obtain ⟨v, rfl, R⟩ := h
        obtain ⟨g, sl, rfl, k1, k2, k3⟩ := R.ex
        exact ⟨g, sl, rfl, R.gw, k1, k3⟩)
    have HNT := Lib.hid hnt
    obtain ⟨N, hN⟩ : ∃ N, N = es.length := ⟨_, rfl⟩
    have HN := Lib.hid hN
    obtain ⟨M, hM⟩ : ∃ M, M = data.length := ⟨_, rfl⟩
    have HM := Lib.hid hM
    have hN8 : N ≤ 8 := by have := (new_ok1 hnt).2.2.2; omega
    rw [← hN] at NT' hlen ⊢
    rw [← hM] at hdl ⊢
    clear NT hnt hN hM hbz
    go_enter Try.func31, Try.ntmps31
    go_upto_region 7 with (go_at_call 18; with_reducible refine NT'.mono ?_; rintro e w1 ⟨g, sl, rfl, G1, R1, S1⟩)
    have HN0 := Lib.hid (Nv.start (bz := bz) G1.out R1.out S1.out)
    clear NT' G1 R1 S1
    generalize w1.heap.size = h at *
    go_loopw [9, 10] (fun k i wr => ∃ (kk ii : Nat) (a : List (List UInt8)) (ds : List Value) (dvv : Value), ii ≤ N ∧ k = .int .i64 (kk : Int) ∧ i = .int .i64 (ii : Int) ∧ Hid (fillTo es data ii = some (a, kk)) ∧ Hid (Nv bz W h g sl dvv t a ds [0, 0, 0, 0] wr)) (fun k i wr => N - (intOf i).toNat)
    case atStart => exact ⟨0, 0, [], [], _, by omega, rfl, rfl, rfl, HN0⟩
    case round =>
      clear HN0
      obtain ⟨kk, ii, a, ds, dvv, hii, rfl, rfl, HF, HNV⟩ := hrel
      obtain ⟨fl, hki, hkm, h8⟩ := fill_len HF.out
      rw [← HM.out] at hkm
      have FL := Lib.hid fl
      have H8 := Lib.hid h8
      clear fl h8
      by_cases hlt : ii < N
      · obtain ⟨Ad, cd, hdv⟩ := own_form1 HNV.out.dr
        rw [FL.out] at hdv
        subst hdv
        have c1 : wr.cell? ⟨h, 1, none⟩ = some (.slice Ad ii cd) := HNV.out.hd.cell 1
        have f1 := HNV.out.hd.free 1
        obtain ⟨e, he⟩ : ∃ e, es[ii]? = some e := ⟨_, List.getElem?_eq_getElem (by rw [← HN.out]; exact hlt)⟩
        obtain ⟨ge, off, hA, _, D1, _⟩ := HC.out ii e he
        subst hA
        obtain ⟨p, d⟩ := e
        simp only at D1
        have HDc := Lib.hid D1
        have FILL : Hid (fillTo es data (ii + 1) = if d = true then some (a ++ [[]], kk) else match data[kk]? with | none => none | some x => if 8 < x.length then none else some (a ++ [x], kk + 1)) := by
          show _ = _
          rw [fillTo, HF.out, he]
          rfl
        have OW : Hid ((wr.alloc (.cells #[.slice none 0 0] 52)).ownsRow (h + 1) 52 1 (.slice Ad ii cd) ii ds) := by
          show World.ownsRow _ _ _ _ _ _ _
          have := HNV.out.dr
          rw [FL.out] at this
          exact own_keep this (fun b _ hb => Below.heap_alloc wr _ b hb)
        have HSZ : Hid (h + 1 ≤ (wr.alloc (.cells #[.slice none 0 0] 52)).heap.size) := Nat.le_trans (lt_cell c1) (alloc_size wr _)
        have NOH : Hid (Value.ownBlock (.slice Ad ii cd) ≠ some h) := fun e => by have := (HNV.out.dvh h e).1; omega
        clear D1 he
        go_upto_region 10 with (at_builtin; refine wpList_append_lies _ rfl _ _ _ rfl (h + 1) 52 i0 _ 1 24 Try.underlying64 HI.out.1 HI.out.2.1 HI.out.2.2.1 HI.out.2.2.2 rfl (by omega) (.slice Ad ii cd) ii ds rfl OW.out ⟨wr.heap.size, 0, none⟩ 1 1 [.slice none 0 0] rfl rfl (World.news_of_block (heap_alloc_new wr _)) (by simp [Value.oneCell']) (by omega) (by have := hm8.out; omega) (by omega) HSZ.out _ rfl ?_; intro g1 cc wp own1 gr1 at1 hlt1; have kz := gr1.block h HSZ.out (fun e => NOH.out e.symm); have k4 : wp.cell? ⟨h, 1, none⟩ = some (.slice Ad ii cd) := ((World.cell?_of_block (a := ⟨h, 1, none⟩) kz).trans ((Gw.alloc wr _).cell c1)); have k4f : wp.frozen? ⟨h, 1, none⟩ = false := ((World.frozen?_of_block (a := ⟨h, 1, none⟩) kz).trans (((Gw.alloc wr _).frz c1).trans f1)))
        have NV2 := HNV.out.add HBZ.out (g1 := g1) (cap := cc) (Gw.alloc wr _) gr1 at1 (by rw [FL.out]; exact own1)
        rw [FL.out] at NV2
        generalize wp.setCell ⟨h, 1, none⟩ (.slice (some ⟨g1, 0, none⟩) (ii + 1) cc) = V at *
        have NV2 := Lib.hid NV2
        clear own1 gr1 at1 kz k4 k4f c1 f1 OW HSZ NOH HNV
        have c1 : V.cell? ⟨h, 1, none⟩ = some (.slice (some ⟨g1, 0, none⟩) (ii + 1) cc) := NV2.out.hd.cell 1
        have d1 := NV2.out.gw.cell HDc.out
        cases d with
        | true =>
          have FIL : Hid (fillTo es data (ii + 1) = some (a ++ [[]], kk)) := by show _ = _; rw [FILL.out]; rfl
          clear FILL
          go_wp2
          go_roundw
          case rel => exact ⟨kk, ii + 1, a ++ [[]], _, _, by omega, rfl, by go_num, FIL, NV2⟩
          case measure => simp [intOf]; omega
        | false =>
          cases hk : data[kk]? with
          | none =>
            have hkM : (M : Int) ≤ kk := by have := List.getElem?_eq_none_iff.1 hk; rw [← HM.out] at this; omega
            have HBAD : Hid (newF es data = .inl 12) := newF_bad HNT.out (i := ii + 1) (by rw [← HN.out]; omega) (by rw [FILL.out, hk]; rfl)
            clear FILL hk
            go_wp2
            go_ret2
            exact nf_bad HBAD.out NV2.out.gw
          | some x =>
            have hkM : ¬ (M : Int) ≤ kk := by have := (List.getElem?_eq_some_iff.1 hk).1; rw [← HM.out] at this; omega
            have hkM2 : (kk : Int) < M := by omega
            obtain ⟨gd, offd, xv, hB, E0, BT⟩ := HD.out kk x hk
            subst hB
            obtain ⟨Ax, cx, rfl, hx4⟩ := id BT
            have HBT := Lib.hid BT
            have e0 := NV2.out.gw.cell E0
            clear BT hx4 E0
            obtain ⟨L, hL⟩ : ∃ L, L = x.length := ⟨_, rfl⟩
            have HL := Lib.hid hL
            rw [← hL] at e0
            by_cases hx8 : 8 < x.length
            · have HBAD : Hid (newF es data = .inl 12) := newF_bad HNT.out (i := ii + 1) (by rw [← HN.out]; omega) (by rw [FILL.out, hk]; simp [hx8])
              have hL8 : (8 : Int) < L := by omega
              clear FILL hk hx8 hL
              go_wp2
              go_ret2
              exact nf_bad HBAD.out NV2.out.gw
            · have FIL : Hid (fillTo es data (ii + 1) = some (a ++ [x], kk + 1)) := by show _ = _; rw [FILL.out, hk]; simp [hx8]
              have hL8 : ¬ (8 : Int) < L := by omega
              have hg : V.cell? ⟨g1, ii, none⟩ = some (.slice none 0 0) ∧ V.frozen? ⟨g1, ii, none⟩ = false := by
                have hdr := NV2.out.dr
                rw [show (a ++ [([] : List UInt8)]).length = ii + 1 by rw [List.length_append, FL.out]; rfl] at hdr
                rcases own_sl hdr with ⟨h1, _⟩ | ⟨r, cap', h1, _, _, h2⟩
                · cases h1
                · cases h1
                  exact h2 ii _ (by have := NV2.out.len; rw [← FL.out]; simp at this; rw [List.getElem?_append_right (by omega), show a.length - ds.length = 0 by omega]; rfl)
              obtain ⟨g0, gf⟩ := hg
              clear FILL hk hx8 hL
              go_upto_region 13 with fail
              go_region
              have NV3 : Nv bz W h g sl (.slice (some ⟨g1, 0, none⟩) (ii + 1) cc) t (a ++ [x]) (ds ++ [.slice Ax L cx]) [0, 0, 0, 0] (V.setCell ⟨g1, ii, none⟩ (.slice Ax L cx)).drew := by
                have h1 := NV2.out
                rw [← FL.out] at h1 ⊢
                rw [HL.out]
                exact (h1.put HBZ.out HBT.out).drew
              have NV3 := Lib.hid NV3
              go_wp2
              go_roundw
              case rel => exact ⟨kk + 1, ii + 1, a ++ [x], _, _, by omega, by go_num, by go_num, FIL, NV3⟩
              case measure => simp [intOf]; omega
      · obtain rfl : ii = N := by omega
        by_cases hkM : kk = M
        · subst hkM
          have HOK := Lib.hid (newF_ok HNT.out (by rw [← HN.out]; exact HF.out) HM.out)
          go_upto_region 18 with fail
          go_loopw [11] (fun j wr => ∃ jj : Nat, jj ≤ 4 ∧ j = .int .i64 (jj : Int) ∧ Hid (Nv bz W h g sl dvv t a ds (fdJ jj) wr)) (fun j wr => 4 - (intOf j).toNat)
          case atStart => exact ⟨0, by omega, rfl, HNV⟩
          case round =>
            clear HNV
            obtain ⟨jj, hj4, rfl, HJ⟩ := hrel
            by_cases hj : jj < 4
            · have hj' : (jj : Int) < 4 := by omega
              have j0 : wr.cell? ⟨h, 3 + jj, none⟩ = some (.int .i64 0) := by rw [HJ.out.hd.cell (3 + jj)]; exact hC_fd (fdJ_get hj)
              have jf := HJ.out.hd.free (3 + jj)
              have J2 := HJ.out.setfd HBZ.out jj (-1)
              rw [fdJ_set hj] at J2
              have J2 := Lib.hid J2
              go_wp2
              go_roundw
              case rel => exact ⟨jj + 1, by omega, by go_num, J2⟩
              case measure => simp [intOf]; omega
            · obtain rfl : jj = 4 := by omega
              go_wp2
              go_ret2
              exact nf_ok HJ.out HBZ.out HOK.out H8.out
        · have HBAD := Lib.hid (newF_many HNT.out (by rw [← HN.out]; exact HF.out) (by rw [← HM.out]; exact hkM))
          have hkM1 : ¬ (kk : Int) = M := by omega
          go_wp2
          go_ret2
          exact nf_bad HBAD.out HNV.out.gw
end Go.Proofs.Ytckoapfmfpmdgaa

namespace Go.Proofs.Ytckoapfmfpmdgaa
open Go.ChangeShapes Go.WideShapes Go.ChangeAt Go.RowKit Go.Joins
set_option linter.unusedVariables false
set_option linter.unusedSimpArgs false

structure Fp (T : FP) (bz : Nat) (K : Nat → Prop) (w : World) (v : Value) (g : Nat) (s1 s2 : Fs) : Prop where
  kb : ∀ k, k < bz → K k
  ex : ∃ F tau G, T F w v s1 ∧ FR bz tau G w g s2 ∧ (∀ k, F k → tau k = 0) ∧ ∀ k, K k → k < w.heap.size ∧ ¬ F k ∧ tau k = 0
section
variable {T : FP} {bz : Nat} {K : Nat → Prop} {w : World} {v : Value} {g : Nat} {s1 s2 : Fs}
theorem Fp.lt (M : Fp T bz K w v g s1 s2) {k : Nat} (hk : K k) : k < w.heap.size := by obtain ⟨F, tau, G, _, _, _, h⟩ := M.ex; exact (h k hk).1
theorem Fp.on (C : FilesC T) (M : Fp T bz K w v g s1 s2) {w' : World} (G : Gw w w') : Fp T bz K w' v g s1 s2 := by
  obtain ⟨F, tau, Q, h1, h2, h3, h4⟩ := M.ex
  exact ⟨M.kb, F, tau, Q, C.same h1 (fun k hk => G.block k (C.lt h1 hk)), h2.on G, h3, fun k hk => ⟨Nat.lt_of_lt_of_le (h4 k hk).1 G.size, (h4 k hk).2⟩⟩
theorem Fp.less (M : Fp T bz K w v g s1 s2) {K' : Nat → Prop} (k : ∀ j, K' j → K j) (k' : ∀ j, j < bz → K' j) : Fp T bz K' w v g s1 s2 := by
  obtain ⟨F, tau, Q, h1, h2, h3, h4⟩ := M.ex
  exact ⟨k', F, tau, Q, h1, h2, h3, fun j hj => h4 j (k j hj)⟩
theorem Fp.sm (M : Fp T bz K w v g s1 s2) {w' : World} (G : Gw w w') : Sm K w w' := ⟨G.os, G.output, G.size, fun k hk => G.block k (M.lt hk)⟩
/-- New blocks may be kept. -/
theorem Fp.more (C : FilesC T) (M : Fp T bz K w v g s1 s2) {w' : World} (G : Gw w w') {B : Nat → Prop} (hB : ∀ k, B k → w.heap.size ≤ k ∧ k < w'.heap.size) : Fp T bz (fun k => K k ∨ B k) w' v g s1 s2 := by
  obtain ⟨F, tau, Q, h1, h2, h3, h4⟩ := (M.on C G).ex
  obtain ⟨F0, tau0, Q0, g1, g2, g3, g4⟩ := M.ex
  refine ⟨fun k hk => .inl (M.kb k hk), F0, tau0, Q0, C.same g1 (fun k hk => G.block k (C.lt g1 hk)), g2.on G, g3, fun k hk => ?_⟩
  rcases hk with hk | hk
  · exact ⟨Nat.lt_of_lt_of_le (g4 k hk).1 G.size, (g4 k hk).2⟩
  · have := hB k hk
    exact ⟨this.2, fun hf => Nat.lt_irrefl _ (Nat.lt_of_lt_of_le (C.lt g1 hf) this.1), Classical.byContradiction fun hn => Nat.lt_irrefl _ (Nat.lt_of_lt_of_le (g2.lt k hn).2 this.1)⟩
theorem Fp.box (C : FilesC T) (M : Fp T bz K w v g s1 s2) (o : Obj) : Fp T bz (fun k => K k ∨ k = w.heap.size) (w.alloc o) v g s1 s2 :=
  M.more C (Gw.alloc w o) (B := fun k => k = w.heap.size) (fun k hk => ⟨by omega, by rw [hk]; exact lt_of_heap (heap_alloc_new w o)⟩)
/-- What is done to the program's. -/
theorem Fp.t (M : Fp T bz K w v g s1 s2) : ∃ F, T F w v s1 ∧ (∀ s' w', KpF T F v s' w w' → Fp T bz K w' v g s' s2 ∧ Sm K w w') ∧
    ∀ a s' e w', BnP T F v w a s' e w' → ∃ x, e = .returned (.tuple #[x, .int .u16 a.2]) ∧ Fp T bz (fun j => K j ∨ Bk x j) w' v g s' s2 ∧ Sm K w w' ∧ BtA w' x a.1 := by
  obtain ⟨F, tau, Q, h1, h2, h3, h4⟩ := M.ex
  have hR : ∀ {w' : World}, ChF F w w' → FR bz tau Q w' g s2 := fun ch => h2.same ch.size (fun b hb hbt => ch.block b hb (fun hf => by
    rcases hbt with hbt | hbt
    · exact (h4 b (M.kb b hbt)).2.1 hf
    · exact hbt (h3 b hf)))
  have hn : ∀ {F' : Nat → Prop}, (∀ k, F' k → F k ∨ w.heap.size ≤ k) → ∀ k, F' k → tau k = 0 := fun h k hk => by
    rcases h k hk with h | h
    · exact h3 k h
    · exact Classical.byContradiction fun hn => Nat.lt_irrefl _ (Nat.lt_of_lt_of_le (h2.lt k hn).2 h)
  have hK : ∀ {F' : Nat → Prop}, (∀ k, F' k → F k ∨ w.heap.size ≤ k) → ∀ k, K k → ¬ F' k := fun h k hk hf => by
    rcases h k hf with h | h
    · exact (h4 k hk).2.1 h
    · exact Nat.lt_irrefl _ (Nat.lt_of_lt_of_le (h4 k hk).1 h)
  refine ⟨F, h1, fun s' w' k => ?_, fun a s' e w' k => ?_⟩
  · obtain ⟨F', k1, k2⟩ := k.ex
    exact ⟨⟨M.kb, F', tau, Q, k1, hR k.ch, hn k2, fun j hj => ⟨Nat.lt_of_lt_of_le (h4 j hj).1 k.ch.size, hK k2 j hj, (h4 j hj).2.2⟩⟩, k.ch.os, k.ch.output, k.ch.size, fun j hj => k.ch.block j (h4 j hj).1 (h4 j hj).2.1⟩
  · obtain ⟨x, F', rfl, ch, k1, k2, A, cap, rfl, b1, b2, b3⟩ := k
    refine ⟨_, rfl, ⟨fun j hj => .inl (M.kb j hj), F', tau, Q, k1, hR ch, hn k2, fun j hj => ?_⟩, ⟨ch.os, ch.output, ch.size, fun j hj => ch.block j (h4 j hj).1 (h4 j hj).2.1⟩, A, cap, rfl, b1, b2, fun j c hj => ?_⟩
    · rcases hj with hj | ⟨off, n, cap', e⟩
      · exact ⟨Nat.lt_of_lt_of_le (h4 j hj).1 ch.size, hK k2 j hj, (h4 j hj).2.2⟩
      · injection e with e1 e2 e3
        obtain ⟨c, hc⟩ : ∃ c, a.1[0]? = some c := ⟨_, List.getElem?_eq_getElem (by omega)⟩
        obtain ⟨b, o, f1, f2, f3, f4⟩ := b3 0 c hc
        rw [e1] at f1
        cases f1
        exact ⟨lt_cell f4, f3, Classical.byContradiction fun hn => Nat.lt_irrefl _ (Nat.lt_of_lt_of_le (h2.lt j hn).2 f2)⟩
    · obtain ⟨b, o, f1, f2, f3, f4⟩ := b3 j c hj
      exact ⟨b, o, f1, f4⟩
/-- What is done to the document's. -/
theorem Fp.m (C : FilesC T) (M : Fp T bz K w v g s1 s2) : ∃ tau G, FR bz tau G w g s2 ∧ (∀ s' w', FTo bz tau w g s' w' → Fp T bz K w' v g s1 s' ∧ Sm K w w') := by
  obtain ⟨F, tau, Q, h1, h2, h3, h4⟩ := M.ex
  refine ⟨tau, Q, h2, fun s' w' k => ?_⟩
  obtain ⟨tau', Q', k1, k2⟩ := k.ex
  have hz : ∀ j, j < w.heap.size → tau j = 0 → tau' j = 0 := fun j hj h => Classical.byContradiction fun hn => k2 j hj hn h
  exact ⟨⟨M.kb, F, tau', Q', C.same h1 (fun j hj => k.ch.block j (C.lt h1 hj) (h3 j hj)), k1, fun j hj => hz j (C.lt h1 hj) (h3 j hj), fun j hj => ⟨Nat.lt_of_lt_of_le (h4 j hj).1 k.ch.size, (h4 j hj).2.1, hz j (h4 j hj).1 (h4 j hj).2.2⟩⟩, k.ch.os, k.ch.output, k.ch.size, fun j hj => k.ch.block j (h4 j hj).1 (h4 j hj).2.2⟩
end
end Go.Proofs.Ytckoapfmfpmdgaa
