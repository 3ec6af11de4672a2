/-
  The law ProgTexts: any program is told by the lines that the document says. No condition.
-/
import Derived.Test.YtcecmkelefhaaaaDoorProgV
namespace Go.Proofs.YtcecmkelefhaaaaDoor.progTexts
open Go.ChangeShapes Go.WideShapes Go.ChangeAt Go.RowKit Go.Joins
set_option linter.unusedVariables false

theorem app_eq (S D : ByteArray) : ∀ l : List UInt8, S = ⟨l.toArray⟩ → ∀ m : List UInt8, D = ⟨m.toArray⟩ → S ++ D = ⟨(l ++ m).toArray⟩ := fun l hl m hm => by
  subst hl hm
  apply bytes_inj
  simp
theorem self_eq (S : ByteArray) : S = ⟨S.data.toList.toArray⟩ := by
  apply bytes_inj
  simp
/-- A line that tells nothing. -/
theorem line_no {L : List (Int × Int)} {k : Nat} {x : Int × Int} (hx : L[k]? = some x) (h : okI x = false) : (⟨(txt L k).toArray⟩ : ByteArray) ++ ⟨(digs k).toArray⟩ ++ ⟨#[32, 63, 10]⟩ = ⟨(txt L (k + 1)).toArray⟩ := by
  have hw : wd x = ⟨#[63]⟩ := by unfold wd; rw [h]; rfl
  rw [txt_succ hx, hw, app_eq _ _ _ (app_eq _ _ _ rfl _ rfl) [32, 63, 10] rfl]
  simp
theorem line_name {L : List (Int × Int)} {k : Nat} {x : Int × Int} (hx : L[k]? = some x) (h : okI x = true) (hm : ¬ 1 ≤ ms x.1.toNat) : (⟨(txt L k).toArray⟩ : ByteArray) ++ ⟨(digs k).toArray⟩ ++ ⟨#[32]⟩ ++ nm x.1.toNat ++ ⟨#[10]⟩ = ⟨(txt L (k + 1)).toArray⟩ := by
  have hw : wd x = nm x.1.toNat := by unfold wd; rw [if_pos h, if_neg hm]
  rw [txt_succ hx, hw, app_eq _ _ _ (app_eq _ _ _ (app_eq _ _ _ (app_eq _ _ _ rfl _ rfl) [32] rfl) _ (self_eq _)) [10] rfl]
theorem line_num {L : List (Int × Int)} {k : Nat} {x : Int × Int} (hx : L[k]? = some x) (h : okI x = true) (hm : 1 ≤ ms x.1.toNat) : (⟨(txt L k).toArray⟩ : ByteArray) ++ ⟨(digs k).toArray⟩ ++ ⟨#[32]⟩ ++ nm x.1.toNat ++ ⟨#[32]⟩ ++ ⟨(digs x.2.toNat).toArray⟩ ++ ⟨#[10]⟩ = ⟨(txt L (k + 1)).toArray⟩ := by
  have hw : wd x = nm x.1.toNat ++ ⟨#[32]⟩ ++ ⟨(digs x.2.toNat).toArray⟩ := by unfold wd; rw [if_pos h, if_pos hm]
  have hd : (wd x).data.toList = (nm x.1.toNat).data.toList ++ [32] ++ digs x.2.toNat := by
    rw [hw, data_append, data_append]
  rw [txt_succ hx, hd, app_eq _ _ _ (app_eq _ _ _ (app_eq _ _ _ (app_eq _ _ _ (app_eq _ _ _ (app_eq _ _ _ rfl _ rfl) [32] rfl) _ (self_eq _)) [32] rfl) _ rfl) [10] rfl]
  simp
structure ST (w : World) (A : Option Addr) (L : List (Int × Int)) (ca : Nat) (B : Option Addr) (N : List ByteArray) (cb : Nat) (W : World) : Prop where
  c0 : W.cell? ⟨w.heap.size, 0, none⟩ = some (.slice A L.length ca)
  c1 : W.cell? ⟨w.heap.size, 1, none⟩ = some (.slice B N.length cb)
  p : POk W A L ca B N cb
  tb : Tb W
  gw : Gw w W
theorem st_on {w : World} {A : Option Addr} {L : List (Int × Int)} {ca : Nat} {B : Option Addr} {N : List ByteArray} {cb : Nat} {W W' : World} (h : ST w A L ca B N cb W) (G : Gw W W') : ST w A L ca B N cb W' :=
  ⟨G.cell h.c0, G.cell h.c1, h.p.gw G, h.tb.gw G, h.gw.trans G⟩
set_option maxHeartbeats 8000000 in
theorem walk (v0 : Value) (w : World) (w0 : ProgIn w v0) (hT : Tb w) :
    Calls Tryd.prog 5 #[v0] w fun e w' => e = .returned (.bool true) ∧ Gw w w' := by
  obtain ⟨A, L, ca, B, N, cb, rfl, h0⟩ := w0
  obtain ⟨W1, hW1⟩ : ∃ W1, W1 = w.alloc (.cells #[.slice A L.length ca, .slice B N.length cb] 25) := ⟨_, rfl⟩
  have GB := Gw.alloc w (.cells #[.slice A L.length ca, .slice B N.length cb] 25)
  obtain ⟨c0, c1, _, _⟩ := two_cells (heap_alloc_new w (.cells #[.slice A L.length ca, .slice B N.length cb] 25))
  rw [← hW1] at GB c0 c1
  have S1 : Hid (ST w A L ca B N cb W1) := ⟨c0, c1, h0.gw GB, hT.gw GB, GB⟩
  have AW := awake_any S1.out.tb
  clear h0 GB hT
  have S0 : ∀ {W : World}, POk W A L ca B N cb → Calls Tryd.prog 11 #[.agg #[.slice A L.length ca, .slice B N.length cb]] W fun e W' => e = .returned (.bool (smallB L N)) ∧ Grown W W' := fun h => small_any h
  have hn : ∀ b w, (Op.unary .not (.bool b)).run Tryd.prog w = .ok (.bool (!b)) w := fun _ _ => rfl
  cases hb0 : smallB L N with
  | false =>
    rw [hb0] at S0
    go_enter Tryd.func5, Tryd.ntmps5
    go_upto_region 1 with fail
    rw [← hW1]
    clear hW1
    go_wp2_with (first | (go_at_call 10; with_reducible refine (AW).mono ?_; rintro e w1 ⟨rfl, G2⟩; have S2 := Lib.hid (st_on S1.out G2); have e0 := S2.out.c0; have e1 := S2.out.c1) | (go_at_call 11; with_reducible refine (S0 S2.out.p).mono ?_; rintro e w2 ⟨rfl, G2⟩; have G2 := Grown.gw G2; have S3 := Lib.hid (st_on S2.out G2); have e0 := S3.out.c0; have e1 := S3.out.c1))
    go_ret
    exact ⟨rfl, S3.out.gw⟩
  | true =>
    rw [hb0] at S0
    obtain ⟨s1, s2, s3⟩ := small_is hb0
    clear hb0 s2 s3
    go_enter Tryd.func5, Tryd.ntmps5
    go_upto_region 1 with fail
    rw [← hW1]
    clear hW1
    go_upto_region 5 with (first | (go_at_call 10; with_reducible refine (AW).mono ?_; rintro e w1 ⟨rfl, G2⟩; have S2 := Lib.hid (st_on S1.out G2); have e0 := S2.out.c0; have e1 := S2.out.c1) | (go_at_call 11; with_reducible refine (S0 S2.out.p).mono ?_; rintro e w2 ⟨rfl, G2⟩; have G2 := Grown.gw G2; have S3 := Lib.hid (st_on S2.out G2); have e0 := S3.out.c0; have e1 := S3.out.c1))
    clear S0 S1 S2 AW c0 c1 e0 e1
    go_wp2_with fail
    go_loopw [3, 4] (fun t i wr => ∃ k : Nat, k ≤ L.length ∧ i = .int .i64 k ∧ t = .string ⟨(txt L k).toArray⟩ ∧ Hid (ST w A L ca B N cb wr)) (fun _ i _ => L.length - (intOf i).toNat)
    case atStart => exact ⟨0, by omega, rfl, rfl, S3.out⟩
    case round =>
      obtain ⟨k, hk, rfl, rfl, S4⟩ := hrel
      have e0 := S4.out.c0
      have e1 := S4.out.c1
      by_cases hlt : k < L.length
      · obtain ⟨x, hx⟩ : ∃ x, L[k]? = some x := ⟨_, List.getElem?_eq_getElem hlt⟩
        obtain ⟨g, off, rfl, hg, hc0, hc1⟩ := S4.out.p.inst k x hx
        have hPl := txt_len L k (by omega)
        have hS := size_mk (txt L k)
        have hD := size_mk (digs k)
        have hD2 := digs_len k (by omega)
        have hS2 : (⟨(txt L k).toArray⟩ : ByteArray).size ≤ 40000 := by omega
        have hD3 : (⟨(digs k).toArray⟩ : ByteArray).size ≤ 21 := by omega
        have DC := fun (W : World) => decimal_any k W (by omega)
        have IM := rmay_any x
        have hsp1 : (⟨#[32, 63, 10]⟩ : ByteArray).size = 3 := rfl
        have hsp2 : (⟨#[32]⟩ : ByteArray).size = 1 := rfl
        have hsp3 : (⟨#[10]⟩ : ByteArray).size = 1 := rfl
        clear hPl hS hD hD2
        cases hok : okI x with
        | false =>
          have HQ := Lib.hid (line_no hx hok)
          rw [hok] at IM
          generalize (⟨(txt L k).toArray⟩ : ByteArray) = S at *
          generalize (⟨(digs k).toArray⟩ : ByteArray) = D at *
          have hz1 : ¬ 9223372036854775807 < S.size + D.size := by omega
          have hz2 : ¬ 9223372036854775807 < (S ++ D).size + 3 := by rw [ByteArray.size_append]; omega
          have hz3 : ¬ 9223372036854775807 < S.size + D.size + 3 := by omega
          by_cases hop : 1 ≤ x.1 ∧ x.1 < 42
          · obtain ⟨j, hj⟩ : ∃ j : Nat, x.1 = j := ⟨x.1.toNat, by omega⟩
            have RW := rrow_yes j (by omega) (by omega)
            rw [← hj] at RW
            clear hop hj hok hS2 hD3 hsp1 hsp2 hsp3 hx
            go_wp2_with (first | (go_at_call 16; with_reducible refine (RW _).mono ?_; rintro e w5 ⟨rfl, G2⟩; have G2 := Grown.gw G2; have S5 := Lib.hid (st_on S4.out G2); have e0 := S5.out.c0; have e1 := S5.out.c1; have hc0 := G2.cell hc0; have hc1 := G2.cell hc1) | (go_at_call 17; with_reducible refine (IM _).mono ?_; rintro e w6 ⟨rfl, G2⟩; have G2 := Grown.gw G2; have S6 := Lib.hid (st_on S5.out G2); have e0 := S6.out.c0; have e1 := S6.out.c1; have hc0 := G2.cell hc0; have hc1 := G2.cell hc1) | (go_at_call 18; with_reducible refine (DC _).mono ?_; rintro e w7 ⟨rfl, G2⟩; have S7 := Lib.hid (st_on S6.out G2); have e0 := S7.out.c0; have e1 := S7.out.c1))
            exact ⟨⟨k + 1, by omega, by go_num, by rw [HQ.out], S7.out⟩, by simp [intOf]; omega⟩
          · have RW := rrow_no x.1 hop
            clear hop hok hS2 hD3 hsp1 hsp2 hsp3 hx
            go_wp2_with (first | (go_at_call 16; with_reducible refine (RW _).mono ?_; rintro e w5 ⟨rfl, G2⟩; have G2 := Grown.gw G2; have S5 := Lib.hid (st_on S4.out G2); have e0 := S5.out.c0; have e1 := S5.out.c1; have hc0 := G2.cell hc0; have hc1 := G2.cell hc1) | (go_at_call 18; with_reducible refine (DC _).mono ?_; rintro e w7 ⟨rfl, G2⟩; have S7 := Lib.hid (st_on S5.out G2); have e0 := S7.out.c0; have e1 := S7.out.c1))
            exact ⟨⟨k + 1, by omega, by go_num, by rw [HQ.out], S7.out⟩, by simp [intOf]; omega⟩
        | true =>
          rw [hok] at IM
          obtain ⟨b1, b2, b3, b4⟩ := okI_bd hok
          obtain ⟨j, hj⟩ : ∃ j : Nat, x.1 = j := ⟨x.1.toNat, by omega⟩
          have RW := rrow_yes j (by omega) (by omega)
          have hns := nm_size j (by omega)
          have hms0 : 0 ≤ ms j := by
            have all : ∀ i : Fin 42, 0 ≤ ms i.val := by decide +kernel
            exact all ⟨j, by omega⟩
          have hj2 : x.1.toNat = j := by omega
          by_cases hm : 1 ≤ ms j
          · have hq := line_num hx hok (by rw [hj2]; exact hm)
            obtain ⟨y, hy⟩ : ∃ y : Nat, x.2 = y := ⟨x.2.toNat, by omega⟩
            have hy2 : x.2.toNat = y := by omega
            have DY := fun (W : World) => decimal_any y W (by omega)
            have hE := size_mk (digs y)
            have hE2 := digs_len y (by omega)
            rw [hj2, hy2] at hq
            have HQ := Lib.hid hq
            clear hq
            have hne : (ms j == 0) = false := by rw [beq_eq_false_iff_ne]; omega
            have hcq : ∀ n : InP (ST w (some ⟨g, off, none⟩) L ca B N cb), n.val.cell? ⟨g, off + k * 2 + 1, none⟩ = some (.int .i64 y) := fun n => by
              obtain ⟨g', off', e', _, _, q⟩ := n.ok.p.inst k x hx
              injection e' with e'
              injection e' with q1 q2 _
              subst q1 q2
              exact q.trans (by rw [hy])
            rw [← hj] at RW
            generalize (⟨(txt L k).toArray⟩ : ByteArray) = S at *
            generalize (⟨(digs k).toArray⟩ : ByteArray) = D at *
            generalize (⟨(digs y).toArray⟩ : ByteArray) = E at *
            generalize nm j = F at *
            generalize ms j = mj at *
            have hz1 : ¬ 9223372036854775807 < S.size + D.size := by omega
            have nz2 : ¬ 9223372036854775807 < S.size + D.size + 1 := by omega
            have nz3 : ¬ 9223372036854775807 < S.size + D.size + 1 + F.size := by omega
            have nz4 : ¬ 9223372036854775807 < S.size + D.size + 1 + F.size + 1 := by omega
            have nz5 : ¬ 9223372036854775807 < S.size + D.size + 1 + F.size + 1 + E.size := by omega
            have nz6 : ¬ 9223372036854775807 < S.size + D.size + 1 + F.size + 1 + E.size + 1 := by omega
            have hk9 : (k : Int) < L.length := by omega
            clear hok hS2 hD3 hsp1 hsp2 hsp3 hx b1 b2 b3 b4 hns hms0 hj2 hy2 hE hE2 hm hj hy
            go_upto_region 10 with (first | (go_at_call 16; with_reducible refine (RW _).mono ?_; rintro e w5 ⟨rfl, G2⟩; have G2 := Grown.gw G2; have S5 := Lib.hid (st_on S4.out G2); have e0 := S5.out.c0; have e1 := S5.out.c1; have hc0 := G2.cell hc0; have hc1 := G2.cell hc1) | (go_at_call 17; with_reducible refine (IM _).mono ?_; rintro e w6 ⟨rfl, G2⟩; have G2 := Grown.gw G2; have S6 := Lib.hid (st_on S5.out G2); have e0 := S6.out.c0; have e1 := S6.out.c1; have hc0 := G2.cell hc0; have hc1 := G2.cell hc1))
            have k0 : ∀ n : InP (ST w (some ⟨g, off, none⟩) L ca B N cb), n.val.cell? ⟨w.heap.size, 0, none⟩ = some (.slice (some ⟨g, off, none⟩) L.length ca) := fun n => n.ok.c0
            have hne2 : Nonempty (InP (ST w (some ⟨g, off, none⟩) L ca B N cb)) := ⟨⟨_, S6.out⟩⟩
            refine region_p (S := ST w (some ⟨g, off, none⟩) L ca B N cb) (by kernel_rfl) (by kernel_rfl) (st_on S6.out (Gw.refl _).drew) ?_
            repeat (go_big_quiet_step (first | with_reducible exact toG (fun a b h g => st_on h g) (DC _) | with_reducible exact toG (fun a b h g => st_on h g) (DY _)))
            refine wpQuiet_nil ?_
            intro _ hw'
            obtain ⟨nq, rfl⟩ := hw'
            go_wp2
            exact ⟨⟨k + 1, by omega, by go_num, by rw [HQ.out], nq.ok⟩, by simp [intOf]; omega⟩
          · have hq := line_name hx hok (by rw [hj2]; exact hm)
            rw [hj2] at hq
            have HQ := Lib.hid hq
            clear hq
            have hm0 : ms j = 0 := by omega
            rw [hm0] at RW
            rw [← hj] at RW
            generalize (⟨(txt L k).toArray⟩ : ByteArray) = S at *
            generalize (⟨(digs k).toArray⟩ : ByteArray) = D at *
            generalize nm j = F at *
            have hz1 : ¬ 9223372036854775807 < S.size + D.size := by omega
            have nz2 : ¬ 9223372036854775807 < S.size + D.size + 1 := by omega
            have nz3 : ¬ 9223372036854775807 < S.size + D.size + 1 + F.size := by omega
            have nz4 : ¬ 9223372036854775807 < S.size + D.size + 1 + F.size + 1 := by omega
            clear hok hS2 hD3 hsp1 hsp2 hsp3 hx b1 b2 b3 b4 hns hms0 hj2 hm hm0 hj
            go_wp2_with (first | (go_at_call 16; with_reducible refine (RW _).mono ?_; rintro e w5 ⟨rfl, G2⟩; have G2 := Grown.gw G2; have S5 := Lib.hid (st_on S4.out G2); have e0 := S5.out.c0; have e1 := S5.out.c1; have hc0 := G2.cell hc0; have hc1 := G2.cell hc1) | (go_at_call 17; with_reducible refine (IM _).mono ?_; rintro e w6 ⟨rfl, G2⟩; have G2 := Grown.gw G2; have S6 := Lib.hid (st_on S5.out G2); have e0 := S6.out.c0; have e1 := S6.out.c1; have hc0 := G2.cell hc0; have hc1 := G2.cell hc1) | (go_at_call 18; with_reducible refine (DC _).mono ?_; rintro e w7 ⟨rfl, G2⟩; have S7 := Lib.hid (st_on S6.out G2); have e0 := S7.out.c0; have e1 := S7.out.c1))
            exact ⟨⟨k + 1, by omega, by go_num, by rw [HQ.out], S7.out⟩, by simp [intOf]; omega⟩
      · obtain rfl : k = L.length := by omega
        have TC := text_any S4.out.p s1 S4.out.tb
        go_wp2_with (go_at_call 19; with_reducible refine (TC).mono ?_; rintro e w7 ⟨rfl, G7⟩)
        go_ret
        exact ⟨rfl, S4.out.gw.trans G7⟩

theorem laidOut : laidOutB Tryd.prog = true := by kernel_rfl
set_option maxRecDepth 100000 in
theorem lifted (os : Os) (started : os.Started) (H : Type) (enc : TypeId × Value → H) :
    ReturnsInHanded {} Tryd.checked os 5 .any (fun w args => (Rows.progTextsSpec.pre enc Tryd.prog Tryd.f5 [] false w args ∧ laidMetH Tryd.prog laidTab w) ∧ sizedMet enc Tryd.prog Tryd.f5 (OpenSpec.ofChange Rows.progTextsSpec) false w args)
      (Rows.progTextsSpec.post enc Tryd.prog Tryd.f5 false true false false) := by
  refine returnsInHanded_of_change_and (C := Tryd.checked) (X := fun w _ => laidMetH Tryd.prog laidTab w) (fun _ _ _ hh h => h.of_heap hh) ownDoor started (by kernel_rfl) Tryd.func5
    (ChangeSpec.witness_shaped (enc := enc) (C := Tryd.checked) (os := os) (X := fun w _ => laidMetH Tryd.prog laidTab w) false (World.doorLaid Tryd.prog 400 os) #[.agg #[.slice none 0 0, .slice none 0 0]] 8 rfl (World.shaped_of_RefB (by kernel_rfl) (by kernel_rfl)) (by kernel_rfl) (by kernel_rfl) (by kernel_rfl) (door_met os _)) ?_
  intro W base args ds gs before hval0 hW _ hsz hL _
  have hval : ∀ (j : Nat) t v, Tryd.f5.params[j]? = some t → args[j]? = some v → Value.okWide Tryd.prog W .any base t v := hval0
  have hW' := hW
  obtain ⟨p, q, hA0, hV, rfl, hfz, hnd⟩ := hW
  have hA : DataW.TrodAll enc Tryd.prog W 0 (fun _ => true) true Tryd.f5.params.toList args.toList ds p := hA0
  rw [Tryd.params5] at hA hval
  obtain ⟨v0, vs0, d0, ds0, p0, q0, hargs, rfl, rfl, h0, r0⟩ := trodAll_cons hA
  obtain ⟨rfl, rfl, rfl⟩ := trodAll_nil r0
  obtain rfl : args = #[v0] := by cases args; simp_all
  obtain ⟨rfl, rfl⟩ := trodVars_none hV
  have hz0 : ∀ n ∈ d0.weights Tryd.prog 25, n ≤ reachBytes := fun n hn => by
    have := List.all_eq_true.1 hsz n (DataW.weights_mem_each (j := 0) (t := 25) (d := d0) (by rfl) (by rfl) n hn)
    simpa using this
  have w0 : ProgIn W v0 := prog_open (hval 0 25 v0 rfl rfl) h0 hz0
  have hT := of_laid hL
  clear hA0 hval0
  simp only [List.append_nil] at hW'
  have hlt := hW'.lt
  refine (walk v0 W w0 hT).mono fun e W' ⟨he, hg⟩ => ?_
  subst he
  have hs : ∀ {q : MemPlace}, q.block < W.heap.size → W.sameAt W' q := fun hq => Below.same hg.below hq
  exact ⟨_, rfl, post_kept hW' hg (fun _ _ _ => (trodAll_cons_mk (shut_bool Tryd.underlying4 _) trodAll_mk0)) (fun sp hsp => (trodAll_cons_mk (WideElems.Trod_stays laidOut (by kernel_rfl) (of_decide_eq_true (by kernel_rfl)) h0 (fun x hx => hs (hlt x (by first | exact hx | (simp; first | exact .inl hx | exact .inr hx | exact hx | exact .inr (.inl hx) | exact .inr (.inr hx))))) (fun x hx => hsp x (by first | exact hx | (simp; first | exact .inl hx | exact .inr hx | exact hx | exact .inr (.inl hx) | exact .inr (.inr hx))))) trodAll_mk0)) (fun _ _ => rfl) (by first | rfl | simp)
    (ok_one (by kernel_rfl) rfl (okWide_bool_mk Tryd.underlying4 _))⟩

theorem over : Rows.ProgTextsSaid :=
  OpenClaim.holds_of_wide 5 Tryd.f5 rfl rfl rfl rfl rfl rfl rfl ⟨rfl, rfl, rfl, rfl, rfl⟩ rfl rfl rfl rfl rfl (by kernel_rfl) Tryd.func5 (by kernel_rfl)
    (of_decide_eq_true (by kernel_rfl)) (by unfold Func.isWrapper; first | (rw [if_pos (by decide +kernel)]; kernel_rfl) | (rw [if_neg (by decide +kernel)]; exact ⟨rfl, rfl⟩))
    (fun os started H enc _ => lifted os started H enc)

theorem proved : Rows.ProgTextsCardSaid :=
  Claim7.holds_tied_plain_at .later [] [.data, .data, .data] true _ false
    over (fun _ h => by cases h) (by kernel_rfl) (fun _ h => by cases h) progTexts_row_tie rfl ⟨rfl, rfl⟩ (by kernel_rfl) rfl
    (fun f fn hf hfn => by
      obtain rfl : f = 5 := Option.some.inj ((show Tryd.prog.funcNamed "crossroads/crossroadslaw10.ProgTexts" = some 5 by kernel_rfl).symm.trans hf) |>.symm
      obtain rfl : fn = Tryd.f5 := (Option.some.inj (Tryd.func5.symm.trans hfn)).symm
      exact ⟨by kernel_rfl, fun j t ht => by
        rw [Tryd.params5] at ht
        have hm : t ∈ ([25] : List TypeId) := by simpa using Array.mem_of_getElem? ht
        have hall : (([25] : List TypeId).all fun u => !Tryd.prog.wantsStandIn u) = true := by kernel_rfl
        exact (show Tryd.prog.wantsStandIn t = false by simpa using List.all_eq_true.1 hall t hm)⟩)
    (by kernel_rfl)
#print axioms proved
end Go.Proofs.YtcecmkelefhaaaaDoor.progTexts
