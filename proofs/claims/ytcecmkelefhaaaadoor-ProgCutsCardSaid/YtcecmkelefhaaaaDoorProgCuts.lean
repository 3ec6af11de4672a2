/-
  The law ProgCuts: bytes of a program that are cut anywhere, or have more behind them, are none. No condition.
-/
import Derived.Test.YtcecmkelefhaaaaDoorProgX
namespace Go.Proofs.YtcecmkelefhaaaaDoor.progCuts
open Go.ChangeShapes Go.WideShapes Go.ChangeAt Go.RowKit Go.Joins
set_option linter.unusedVariables false

theorem byat_on {w W : World} {A : Option Addr} {l : List UInt8} (h : ByAt w A l) (G : Gw w W) : ByAt W A l := fun i z hz => by
  obtain ⟨b, off, e, h1, h2⟩ := h i z hz
  exact ⟨b, off, e, Nat.lt_of_lt_of_le h1 G.size, G.cell h2⟩
theorem enc_len {L : List (Int × Int)} {N : List ByteArray} (h : errP L N = 0) : 4 ≤ (encP L N).length ∧ (encP L N).length ≤ 3000 := by
  obtain ⟨a1, a2, a3, a4⟩ := err0_is h
  have h1 := total_le 255 N a3 N.length
  rw [List.take_length] at h1
  have h2 : N.length * 255 ≤ 8 * 255 := Nat.mul_le_mul_right _ a2
  rw [encP_len]
  omega
theorem cut_err {L : List (Int × Int)} {N : List ByteArray} (h : errP L N = 0) {k : Nat} (hk : k < (encP L N).length) : errR ((encP L N).take k) = 4 := by
  unfold errR
  rw [par_cut (raw_ok h) hk]
  rfl
theorem more_err {L : List (Int × Int)} {N : List ByteArray} (h : errP L N = 0) (m : List UInt8) : errR (encP L N ++ m) = if m.length = 0 then 0 else 4 := by
  have h1 := par_enc (raw_ok h) m
  unfold errR
  rw [h1]
  cases m with
  | nil => simpa using h
  | cons z m => rfl
theorem tmod_is (a : Int) (n : Nat) (h0 : 0 ≤ a) : Int.tmod a n = ((a.toNat % n : Nat) : Int) := by
  obtain ⟨k, rfl⟩ : ∃ k : Nat, a = k := ⟨a.toNat, by omega⟩
  rfl
set_option maxHeartbeats 8000000 in
theorem walk (v0 : Value) (a1 : Int) (v2 : Value) (w : World) (w0 : ProgIn w v0) (w1 : (Lit.int .u16 a1).wf = true) (w2 : BytesNil w v2) (hT : Tb w) :
    Calls Tryd.prog 8 #[v0, .int .u16 a1, v2] w fun e w' => e = .returned (.bool true) ∧ Gw w w' := by
  obtain ⟨A, L, ca, B, N, cb, rfl, h0⟩ := w0
  obtain ⟨M, m, cm, rfl, hm1, hm2, hm3, hm4⟩ := w2
  obtain ⟨ha0, ha1⟩ := bounds_u16 w1
  obtain ⟨W1, hW1⟩ : ∃ W1, W1 = w.alloc (.cells #[.slice A L.length ca, .slice B N.length cb] 25) := ⟨_, rfl⟩
  have GB := Gw.alloc w (.cells #[.slice A L.length ca, .slice B N.length cb] 25)
  obtain ⟨c0, c1, _, _⟩ := two_cells (heap_alloc_new w (.cells #[.slice A L.length ca, .slice B N.length cb] 25))
  rw [← hW1] at GB c0 c1
  have p0 := h0.gw GB
  have AW := awake_any (hT.gw GB)
  clear h0
  have HM := Lib.hid hm3
  have HMN := Lib.hid hm4
  clear hm3 hm4 w1
  have S0 : ∀ {W : World}, POk W A L ca B N cb → Calls Tryd.prog 11 #[.agg #[.slice A L.length ca, .slice B N.length cb]] W fun e W' => e = .returned (.bool (smallB L N)) ∧ Grown W W' := fun h => small_any h
  have hn : ∀ b w, (Op.unary .not (.bool b)).run Tryd.prog w = .ok (.bool (!b)) w := fun _ _ => rfl
  cases hb0 : smallB L N with
  | false =>
    rw [hb0] at S0
    go_enter Tryd.func8, Tryd.ntmps8
    go_upto_region 1 with fail
    rw [← hW1]
    clear hW1
    go_wp2_with (first | (go_at_call 10; with_reducible refine (AW).mono ?_; rintro e w1 ⟨rfl, G1⟩; have e0 := G1.cell c0; have e1 := G1.cell c1; have P0 := Lib.hid (p0.gw G1); have GW := GB.trans G1) | (go_at_call 11; with_reducible refine (S0 P0.out).mono ?_; rintro e w2 ⟨rfl, G2⟩; have G2 := Grown.gw G2; have e0 := G2.cell e0; have e1 := G2.cell e1; have P0 := Lib.hid (P0.out.gw G2); have GW := GW.trans G2))
    go_ret
    exact ⟨rfl, GW⟩
  | true =>
    rw [hb0] at S0
    by_cases hml : 100 < m.length
    · have hml' : (100 : Int) < m.length := by omega
      go_enter Tryd.func8, Tryd.ntmps8
      go_upto_region 1 with fail
      rw [← hW1]
      clear hW1
      go_wp2_with (first | (go_at_call 10; with_reducible refine (AW).mono ?_; rintro e w1 ⟨rfl, G1⟩; have e0 := G1.cell c0; have e1 := G1.cell c1; have P0 := Lib.hid (p0.gw G1); have GW := GB.trans G1) | (go_at_call 11; with_reducible refine (S0 P0.out).mono ?_; rintro e w2 ⟨rfl, G2⟩; have G2 := Grown.gw G2; have e0 := G2.cell e0; have e1 := G2.cell e1; have P0 := Lib.hid (P0.out.gw G2); have GW := GW.trans G2))
      go_ret
      exact ⟨rfl, GW⟩
    · have hml' : decide ((100 : Int) < m.length) = false := decide_eq_false (by omega)
      have Y0 := fun {W : World} (h : POk W A L ca B N cb) => bytes_any h
      clear hb0
      by_cases E0 : errP L N = 0
      · have Y0 := fun {W : World} (h : POk W A L ca B N cb) => post_zero (Y0 h) E0
        obtain ⟨hz1, hz2⟩ := enc_len E0
        have hcut := fun {k : Nat} (hk : k < (encP L N).length) => cut_err E0 hk
        have hmore := more_err E0 m
        clear E0
        generalize encP L N = z at *
        obtain ⟨j, hj⟩ : ∃ j : Nat, j = a1.toNat % z.length := ⟨_, rfl⟩
        have hjl : j < z.length := by rw [hj]; exact Nat.mod_lt _ (by omega)
        have hmod : Int.tmod a1 z.length = (j : Int) := by rw [tmod_is a1 z.length ha0, hj]
        have hzz : ((z.length : Int) == 0) = false := by rw [beq_eq_false_iff_ne]; omega
        have hcj := hcut hjl
        clear hj hcut
        go_enter Tryd.func8, Tryd.ntmps8
        go_upto_region 1 with fail
        rw [← hW1]
        clear hW1
        go_upto_region 6 with (first | (go_at_call 10; with_reducible refine (AW).mono ?_; rintro e w1 ⟨rfl, G1⟩; have e0 := G1.cell c0; have e1 := G1.cell c1; have P0 := Lib.hid (p0.gw G1); have GW := GB.trans G1) | (go_at_call 11; with_reducible refine (S0 P0.out).mono ?_; rintro e w2 ⟨rfl, G2⟩; have G2 := Grown.gw G2; have e0 := G2.cell e0; have e1 := G2.cell e1; have P0 := Lib.hid (P0.out.gw G2); have GW := GW.trans G2) | (go_at_call 12; with_reducible refine (Y0 P0.out).mono ?_; rintro e w3 ⟨x0, rfl, R0⟩; have G2 := R0.gw; have e0 := G2.cell e0; have e1 := G2.cell e1; have P0 := Lib.hid (P0.out.gw G2); have GW := GW.trans G2))
        obtain ⟨X, cx, rfl, hx1, hx2, hx3⟩ := R0.byat
        have GW3 := Lib.hid GW
        have HX := Lib.hid hx3
        have hXN : Hid (X = none → cx = 0) := fun e => by
          obtain ⟨b, off, e', _⟩ := hx3 0 z[0] (List.getElem?_eq_getElem (by omega))
          rw [e] at e'; cases e'
        clear R0 hx3 GW S0 Y0 P0 e0 e1 c0 c1 p0 AW GB
        have RC1 : Calls Tryd.prog 14 #[.slice X j cx] w3 fun e W' => ∃ C ca B cb, e = .returned (.tuple #[.agg #[.slice C 0 ca, .slice B 0 cb], .int .i64 4]) ∧ Gw w3 W' := by
          have := read_any (HX.out.take j) (cap := cx) (by rw [List.length_take]; omega) hx2
          rw [show (z.take j).length = j by rw [List.length_take]; omega] at this
          unfold ReadPost at this
          rw [hcj] at this
          exact this.mono fun e W' ⟨C, ca, B, cb, he, _, hg⟩ => ⟨C, ca, B, cb, he, hg⟩
        clear hcj
        have hjc : j ≤ cx := by omega
        go_upto_region 10 with (go_at_call 14; with_reducible refine (RC1).mono ?_; rintro e w4 ⟨C, ca2, D, cb2, rfl, G4⟩; have GA := Gw.alloc w4 (.cells #[.slice C 0 ca2, .slice D 0 cb2] 25))
        have G5 := Lib.hid (G4.trans GA)
        clear G4 GA RC1
        generalize w4.alloc (.cells #[.slice C 0 ca2, .slice D 0 cb2] 25) = w5 at *
        generalize w4.heap.size = qb at *
        have R5 : BRel w5 (w5.alloc (.cells #[] 5)) (.slice (some ⟨w5.heap.size, 0, none⟩) 0 0) [] := BRel.lit w5 w5 (Gw.refl _) [] (by simp)
        have G6 := Gw.alloc w5 (.cells #[] 5)
        have hml9 : m.length ≤ 100 := by omega
        have RM : ∀ {w0 W : World} {v : Value}, BRel w0 W v (([] ++ z) ++ m) → Calls Tryd.prog 14 #[v] W fun e W' => ∃ C ca B cb L N, e = .returned (.tuple #[.agg #[.slice C L ca, .slice B N cb], .int .i64 (if m.length = 0 then 0 else 4)]) ∧ Gw W W' := fun h => by
          rw [List.nil_append] at h
          have := read_row h
          unfold ReadPost at this
          rw [hmore] at this
          exact this.mono fun e W' ⟨C, ca, B, cb, he, _, hg⟩ => ⟨C, ca, B, cb, _, _, he, hg⟩
        go_upto_region 11 with (first | (at_builtin; first | (refine app_by rfl _ _ rfl w5 w3 _ [] rfl R5 X z cx rfl hXN.out HX.out (G5.out.trans G6) (by simp only [List.length_nil]; omega) ?_ G5.out.size; intro v7 w7 R7 G7) | (refine app_by rfl _ _ rfl w5 w v7 ([] ++ z) rfl R7 M m cm rfl HMN.out HM.out (GW3.out.trans G7) (by simp only [List.nil_append]; omega) ?_ (Nat.le_trans GW3.out.size G5.out.size); intro v8 w8 R8 G8; have RM8 := RM R8)) | (go_at_call 14; with_reducible refine (RM8).mono ?_; rintro e w9 ⟨C9, ca9, D9, cb9, L9, N9, rfl, G9⟩))
        have GF := Lib.hid (G8.trans (G9.trans (Gw.alloc w9 (.cells #[.slice C9 L9 ca9, .slice D9 N9 cb9] 25))))
        clear R7 R8 RM RM8 G7 G8 G9 G5 G6 HM HX hmore
        by_cases hm0 : m.length = 0
        · have hmn : m = [] := List.eq_nil_of_length_eq_zero hm0
          subst hmn
          go_wp2
          go_ret
          exact ⟨rfl, GF.out⟩
        · have hmn : ¬ m = [] := fun e => hm0 (by rw [e]; rfl)
          have hq1 : ((m.length : Int) == 0) = false := by rw [beq_eq_false_iff_ne]; omega
          have hq2 : (0 : Int) < m.length := by omega
          go_wp2
          go_ret
          exact ⟨rfl, GF.out⟩
      · obtain ⟨x, hx⟩ : ∃ x, errP L N = x := ⟨_, rfl⟩
        have E1 : (x == 0) = false := by rw [beq_eq_false_iff_ne]; rw [hx] at E0; exact E0
        have Y0 := fun {W : World} (h : POk W A L ca B N cb) => post_bad (Y0 h) hx (by rw [hx] at E0; exact E0)
        clear E0 hx
        go_enter Tryd.func8, Tryd.ntmps8
        go_upto_region 1 with fail
        rw [← hW1]
        clear hW1
        go_wp2_with (first | (go_at_call 10; with_reducible refine (AW).mono ?_; rintro e w1 ⟨rfl, G1⟩; have e0 := G1.cell c0; have e1 := G1.cell c1; have P0 := Lib.hid (p0.gw G1); have GW := GB.trans G1) | (go_at_call 11; with_reducible refine (S0 P0.out).mono ?_; rintro e w2 ⟨rfl, G2⟩; have G2 := Grown.gw G2; have e0 := G2.cell e0; have e1 := G2.cell e1; have P0 := Lib.hid (P0.out.gw G2); have GW := GW.trans G2) | (go_at_call 12; with_reducible refine (Y0 P0.out).mono ?_; rintro e w3 ⟨x0, rfl, R0⟩; have G2 := R0.gw; have e0 := G2.cell e0; have e1 := G2.cell e1; have P0 := Lib.hid (P0.out.gw G2); have GW := GW.trans G2))
        go_ret
        exact ⟨rfl, GW⟩

theorem laidOut : laidOutB Tryd.prog = true := by kernel_rfl
set_option maxRecDepth 100000 in
theorem lifted (os : Os) (started : os.Started) (H : Type) (enc : TypeId × Value → H) :
    ReturnsInHanded {} Tryd.checked os 8 .any (fun w args => (Rows.progCutsSpec.pre enc Tryd.prog Tryd.f8 [] false w args ∧ laidMetH Tryd.prog laidTab w) ∧ sizedMet enc Tryd.prog Tryd.f8 (OpenSpec.ofChange Rows.progCutsSpec) false w args)
      (Rows.progCutsSpec.post enc Tryd.prog Tryd.f8 false true false false) := by
  refine returnsInHanded_of_change_and (C := Tryd.checked) (X := fun w _ => laidMetH Tryd.prog laidTab w) (fun _ _ _ hh h => h.of_heap hh) ownDoor started (by kernel_rfl) Tryd.func8
    (ChangeSpec.witness_shaped (enc := enc) (C := Tryd.checked) (os := os) (X := fun w _ => laidMetH Tryd.prog laidTab w) false (World.doorLaid Tryd.prog 400 os) #[.agg #[.slice none 0 0, .slice none 0 0], .int .u16 0, .slice none 0 0] 8 rfl (World.shaped_of_RefB (by kernel_rfl) (by kernel_rfl)) (by kernel_rfl) (by kernel_rfl) (by kernel_rfl) (door_met os _)) ?_
  intro W base args ds gs before hval0 hW _ hsz hL _
  have hval : ∀ (j : Nat) t v, Tryd.f8.params[j]? = some t → args[j]? = some v → Value.okWide Tryd.prog W .any base t v := hval0
  have hW' := hW
  obtain ⟨p, q, hA0, hV, rfl, hfz, hnd⟩ := hW
  have hA : DataW.TrodAll enc Tryd.prog W 0 (fun _ => true) true Tryd.f8.params.toList args.toList ds p := hA0
  rw [Tryd.params8] at hA hval
  obtain ⟨v0, vs0, d0, ds0, p0, q0, hargs, rfl, rfl, h0, r0⟩ := trodAll_cons hA
  obtain ⟨v1, vs1, d1, ds1, p1, q1, rfl, rfl, rfl, h1, r1⟩ := trodAll_cons r0
  obtain ⟨v2, vs2, d2, ds2, p2, q2, rfl, rfl, rfl, h2, r2⟩ := trodAll_cons r1
  obtain ⟨rfl, rfl, rfl⟩ := trodAll_nil r2
  obtain rfl : args = #[v0, v1, v2] := by cases args; simp_all
  obtain ⟨rfl, rfl⟩ := trodVars_none hV
  have hz0 : ∀ n ∈ d0.weights Tryd.prog 25, n ≤ reachBytes := fun n hn => by
    have := List.all_eq_true.1 hsz n (DataW.weights_mem_each (j := 0) (t := 25) (d := d0) (by rfl) (by rfl) n hn)
    simpa using this
  have w0 : ProgIn W v0 := prog_open (hval 0 25 v0 rfl rfl) h0 hz0
  obtain ⟨a1, rfl, rfl, rfl, w1⟩ := open_int Tryd.underlying45 (hval 1 45 v1 rfl rfl) h1
  have hz2 : ∀ n ∈ d2.weights Tryd.prog 28, n ≤ reachBytes := fun n hn => by
    have := List.all_eq_true.1 hsz n (DataW.weights_mem_each (j := 2) (t := 28) (d := d2) (by rfl) (by rfl) n hn)
    simpa using this
  have w2 : BytesNil W v2 := bytes_open2 (hval 2 28 v2 rfl rfl) h2
  have hT := of_laid hL
  clear hA0 hval0
  simp only [List.append_nil] at hW'
  have hlt := hW'.lt
  refine (walk v0 a1 v2 W w0 w1 w2 hT).mono fun e W' ⟨he, hg⟩ => ?_
  subst he
  have hs : ∀ {q : MemPlace}, q.block < W.heap.size → W.sameAt W' q := fun hq => Below.same hg.below hq
  exact ⟨_, rfl, post_kept hW' hg (fun _ _ _ => (trodAll_cons_mk (shut_bool Tryd.underlying4 _) trodAll_mk0)) (fun sp hsp => (trodAll_cons_mk (WideElems.Trod_stays laidOut (by kernel_rfl) (of_decide_eq_true (by kernel_rfl)) h0 (fun x hx => hs (hlt x (by first | exact hx | (simp; first | exact .inl hx | exact .inr hx | exact hx | exact .inr (.inl hx) | exact .inr (.inr hx))))) (fun x hx => hsp x (by first | exact hx | (simp; first | exact .inl hx | exact .inr hx | exact hx | exact .inr (.inl hx) | exact .inr (.inr hx))))) (trodAll_cons_mk (shut_int Tryd.underlying45 w1) (trodAll_cons_mk (WideElems.Trod_stays laidOut (by kernel_rfl) (of_decide_eq_true (by kernel_rfl)) h2 (fun x hx => hs (hlt x (by first | exact hx | (simp; first | exact .inl hx | exact .inr hx | exact hx | exact .inr (.inl hx) | exact .inr (.inr hx))))) (fun x hx => hsp x (by first | exact hx | (simp; first | exact .inl hx | exact .inr hx | exact hx | exact .inr (.inl hx) | exact .inr (.inr hx))))) trodAll_mk0)))) (fun _ _ => rfl) (by first | rfl | simp)
    (ok_one (by kernel_rfl) rfl (okWide_bool_mk Tryd.underlying4 _))⟩

theorem over : Rows.ProgCutsSaid :=
  OpenClaim.holds_of_wide 8 Tryd.f8 rfl rfl rfl rfl rfl rfl rfl ⟨rfl, rfl, rfl, rfl, rfl⟩ rfl rfl rfl rfl rfl (by kernel_rfl) Tryd.func8 (by kernel_rfl)
    (of_decide_eq_true (by kernel_rfl)) (by unfold Func.isWrapper; first | (rw [if_pos (by decide +kernel)]; kernel_rfl) | (rw [if_neg (by decide +kernel)]; exact ⟨rfl, rfl⟩))
    (fun os started H enc _ => lifted os started H enc)

theorem proved : Rows.ProgCutsCardSaid :=
  Claim7.holds_tied_plain_at .later [] [.data, .data, .data] true _ false
    over (fun _ h => by cases h) (by kernel_rfl) (fun _ h => by cases h) progCuts_row_tie rfl ⟨rfl, rfl⟩ (by kernel_rfl) rfl
    (fun f fn hf hfn => by
      obtain rfl : f = 8 := Option.some.inj ((show Tryd.prog.funcNamed "crossroads/crossroadslaw10.ProgCuts" = some 8 by kernel_rfl).symm.trans hf) |>.symm
      obtain rfl : fn = Tryd.f8 := (Option.some.inj (Tryd.func8.symm.trans hfn)).symm
      exact ⟨by kernel_rfl, fun j t ht => by
        rw [Tryd.params8] at ht
        have hm : t ∈ ([25, 45, 28] : List TypeId) := by simpa using Array.mem_of_getElem? ht
        have hall : (([25, 45, 28] : List TypeId).all fun u => !Tryd.prog.wantsStandIn u) = true := by kernel_rfl
        exact (show Tryd.prog.wantsStandIn t = false by simpa using List.all_eq_true.1 hall t hm)⟩)
    (by kernel_rfl)
#print axioms proved
end Go.Proofs.YtcecmkelefhaaaaDoor.progCuts
