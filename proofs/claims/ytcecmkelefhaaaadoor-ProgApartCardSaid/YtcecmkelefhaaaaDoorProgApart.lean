/-
  The law ProgApart: two programs have the same bytes just if they are one. No condition.
-/
import Derived.Test.YtcecmkelefhaaaaDoorProgV
namespace Go.Proofs.YtcecmkelefhaaaaDoor.progApart
open Go.ChangeShapes Go.WideShapes Go.ChangeAt Go.RowKit Go.Joins
set_option linter.unusedVariables false

structure SA (w : World) (A : Option Addr) (L : List (Int × Int)) (ca : Nat) (B : Option Addr) (N : List ByteArray) (cb : Nat) (A' : Option Addr) (L' : List (Int × Int)) (ca' : Nat) (B' : Option Addr) (N' : List ByteArray) (cb' : Nat) (x0 x1 : Value) (W : World) : Prop where
  r0 : ∃ w0, BRel w0 W x0 (encP L N)
  r1 : ∃ w0, BRel w0 W x1 (encP L' N')
  c0 : W.cell? ⟨w.heap.size, 0, none⟩ = some (.slice A L.length ca)
  c1 : W.cell? ⟨w.heap.size, 1, none⟩ = some (.slice B N.length cb)
  d0 : W.cell? ⟨w.heap.size + 1, 0, none⟩ = some (.slice A' L'.length ca')
  d1 : W.cell? ⟨w.heap.size + 1, 1, none⟩ = some (.slice B' N'.length cb')
  p0 : POk W A L ca B N cb
  p1 : POk W A' L' ca' B' N' cb'
  gw : Gw w W
theorem SA.grown {w : World} {A : Option Addr} {L : List (Int × Int)} {ca : Nat} {B : Option Addr} {N : List ByteArray} {cb : Nat} {A' : Option Addr} {L' : List (Int × Int)} {ca' : Nat} {B' : Option Addr} {N' : List ByteArray} {cb' : Nat} {x0 x1 : Value} {W W' : World} (h : SA w A L ca B N cb A' L' ca' B' N' cb' x0 x1 W) (g : Grown W W') : SA w A L ca B N cb A' L' ca' B' N' cb' x0 x1 W' :=
  have G := Grown.gw g
  ⟨⟨_, h.r0.choose_spec.keep G⟩, ⟨_, h.r1.choose_spec.keep G⟩, G.cell h.c0, G.cell h.c1, G.cell h.d0, G.cell h.d1, h.p0.gw G, h.p1.gw G, h.gw.trans G⟩
set_option maxHeartbeats 8000000 in
theorem walk (v0 : Value) (v1 : Value) (w : World) (w0 : ProgIn w v0) (w1 : ProgIn w v1) (hT : Tb w) :
    Calls Tryd.prog 7 #[v0, v1] w fun e w' => e = .returned (.bool true) ∧ Gw w w' := by
  obtain ⟨A, L, ca, B, N, cb, rfl, h0⟩ := w0
  obtain ⟨A', L', ca', B', N', cb', rfl, h1⟩ := w1
  obtain ⟨W1, hW1⟩ : ∃ W1, W1 = (w.alloc (.cells #[.slice A L.length ca, .slice B N.length cb] 25)).alloc (.cells #[.slice A' L'.length ca', .slice B' N'.length cb'] 25) := ⟨_, rfl⟩
  obtain ⟨⟨c0, c1⟩, ⟨d0, d1⟩, GB⟩ := lay_two w A B A' B' L.length N.length L'.length N'.length ca cb ca' cb' W1 hW1
  have p0 := h0.gw GB
  have p1 := h1.gw GB
  clear h0 h1
  go_enter Tryd.func7, Tryd.ntmps7
  go_wp2_with fail
  rw [← hW1]
  clear hW1
  have S0 : ∀ {W : World}, POk W A L ca B N cb → Calls Tryd.prog 11 #[.agg #[.slice A L.length ca, .slice B N.length cb]] W fun e W' => e = .returned (.bool (smallB L N)) ∧ Grown W W' := fun h => small_any h
  have S1 : ∀ {W : World}, POk W A' L' ca' B' N' cb' → Calls Tryd.prog 11 #[.agg #[.slice A' L'.length ca', .slice B' N'.length cb']] W fun e W' => e = .returned (.bool (smallB L' N')) ∧ Grown W W' := fun h => small_any h
  have hn : ∀ b w, (Op.unary .not (.bool b)).run Tryd.prog w = .ok (.bool (!b)) w := fun _ _ => rfl
  cases hb0 : smallB L N with
  | false =>
    rw [hb0] at S0
    go_wp2_with (first | (go_at_call 10; with_reducible refine (awake_any (hT.gw GB)).mono ?_; rintro e w' ⟨rfl, G1⟩; have e0 := G1.cell c0; have e1 := G1.cell c1; have e2 := G1.cell d0; have e3 := G1.cell d1; have P0 := Lib.hid (p0.gw G1); have P1 := Lib.hid (p1.gw G1); have GW := GB.trans G1) | (go_at_call 11; with_reducible refine (S0 P0.out).mono ?_; rintro e w' ⟨rfl, G2⟩; have G2 := Grown.gw G2; have e0 := G2.cell e0; have e1 := G2.cell e1; have e2 := G2.cell e2; have e3 := G2.cell e3; have P0 := Lib.hid (P0.out.gw G2); have P1 := Lib.hid (P1.out.gw G2); have GW := GW.trans G2))
    go_ret
    exact ⟨rfl, GW⟩
  | true =>
    rw [hb0] at S0
    cases hb1 : smallB L' N' with
    | false =>
      rw [hb1] at S1
      go_wp2_with (first | (go_at_call 10; with_reducible refine (awake_any (hT.gw GB)).mono ?_; rintro e w' ⟨rfl, G1⟩; have e0 := G1.cell c0; have e1 := G1.cell c1; have e2 := G1.cell d0; have e3 := G1.cell d1; have P0 := Lib.hid (p0.gw G1); have P1 := Lib.hid (p1.gw G1); have GW := GB.trans G1) | (go_at_call 11; with_reducible refine (S0 P0.out).mono ?_; rintro e w' ⟨rfl, G2⟩; have G2 := Grown.gw G2; have e0 := G2.cell e0; have e1 := G2.cell e1; have e2 := G2.cell e2; have e3 := G2.cell e3; have P0 := Lib.hid (P0.out.gw G2); have P1 := Lib.hid (P1.out.gw G2); have GW := GW.trans G2) | (go_at_call 11; with_reducible refine (S1 P1.out).mono ?_; rintro e w' ⟨rfl, G2⟩; have G2 := Grown.gw G2; have e0 := G2.cell e0; have e1 := G2.cell e1; have e2 := G2.cell e2; have e3 := G2.cell e3; have P0 := Lib.hid (P0.out.gw G2); have P1 := Lib.hid (P1.out.gw G2); have GW := GW.trans G2))
      go_ret
      exact ⟨rfl, GW⟩
    | true =>
      rw [hb1] at S1
      obtain ⟨s1, s2, s3⟩ := small_is hb0
      obtain ⟨t1, t2, t3⟩ := small_is hb1
      have Y0 := fun {W : World} (h : POk W A L ca B N cb) => bytes_any h
      have Y1 := fun {W : World} (h : POk W A' L' ca' B' N' cb') => bytes_any h
      clear hb0 hb1 s1 s2 s3 t1 t2 t3
      by_cases E0 : errP L N = 0
      · by_cases E1 : errP L' N' = 0
        · have HP := Lib.hid (fun he => prog_apart (r := []) (r' := []) E0 E1 (congrArg (· ++ []) he))
          have Y0 := fun {W : World} (h : POk W A L ca B N cb) => post_zero (Y0 h) E0
          have Y1 := fun {W : World} (h : POk W A' L' ca' B' N' cb') => post_zero (Y1 h) E1
          clear E0 E1
          go_wp2_with (first | (go_at_call 10; with_reducible refine (awake_any (hT.gw GB)).mono ?_; rintro e w' ⟨rfl, G1⟩; have e0 := G1.cell c0; have e1 := G1.cell c1; have e2 := G1.cell d0; have e3 := G1.cell d1; have P0 := Lib.hid (p0.gw G1); have P1 := Lib.hid (p1.gw G1); have GW := GB.trans G1) | (go_at_call 11; with_reducible refine (S0 P0.out).mono ?_; rintro e w' ⟨rfl, G2⟩; have G2 := Grown.gw G2; have e0 := G2.cell e0; have e1 := G2.cell e1; have e2 := G2.cell e2; have e3 := G2.cell e3; have P0 := Lib.hid (P0.out.gw G2); have P1 := Lib.hid (P1.out.gw G2); have GW := GW.trans G2) | (go_at_call 11; with_reducible refine (S1 P1.out).mono ?_; rintro e w' ⟨rfl, G2⟩; have G2 := Grown.gw G2; have e0 := G2.cell e0; have e1 := G2.cell e1; have e2 := G2.cell e2; have e3 := G2.cell e3; have P0 := Lib.hid (P0.out.gw G2); have P1 := Lib.hid (P1.out.gw G2); have GW := GW.trans G2) | (go_at_call 12; with_reducible refine (Y0 P0.out).mono ?_; rintro e w' ⟨x0, rfl, R0⟩; have G2 := R0.gw; have e0 := G2.cell e0; have e1 := G2.cell e1; have e2 := G2.cell e2; have e3 := G2.cell e3; have P0 := Lib.hid (P0.out.gw G2); have P1 := Lib.hid (P1.out.gw G2); have GW := GW.trans G2) | (go_at_call 12; with_reducible refine (Y1 P1.out).mono ?_; rintro e w' ⟨x1, rfl, R1⟩; have G2 := R1.gw; have e0 := G2.cell e0; have e1 := G2.cell e1; have e2 := G2.cell e2; have e3 := G2.cell e3; have P0 := Lib.hid (P0.out.gw G2); have P1 := Lib.hid (P1.out.gw G2); have GW := GW.trans G2; have R0 := R0.keep G2))
          have hq0 : ∀ n : InP (SA w A L ca B N cb A' L' ca' B' N' cb' x0 x1), (convert 28 9 x0).run Tryd.prog n.val = .ok (.string ⟨(encP L N).toArray⟩) n.val := fun n => by obtain ⟨_, hr⟩ := n.ok.r0; exact hr.back
          have hq1 : ∀ n : InP (SA w A L ca B N cb A' L' ca' B' N' cb' x0 x1), (convert 28 9 x1).run Tryd.prog n.val = .ok (.string ⟨(encP L' N').toArray⟩) n.val := fun n => by obtain ⟨_, hr⟩ := n.ok.r1; exact hr.back
          have k0 : ∀ n : InP (SA w A L ca B N cb A' L' ca' B' N' cb' x0 x1), n.val.cell? ⟨w.heap.size, 0, none⟩ = some (.slice A L.length ca) := fun n => n.ok.c0
          have k1 : ∀ n : InP (SA w A L ca B N cb A' L' ca' B' N' cb' x0 x1), n.val.cell? ⟨w.heap.size, 1, none⟩ = some (.slice B N.length cb) := fun n => n.ok.c1
          have k2 : ∀ n : InP (SA w A L ca B N cb A' L' ca' B' N' cb' x0 x1), n.val.cell? ⟨w.heap.size + 1, 0, none⟩ = some (.slice A' L'.length ca') := fun n => n.ok.d0
          have k3 : ∀ n : InP (SA w A L ca B N cb A' L' ca' B' N' cb' x0 x1), n.val.cell? ⟨w.heap.size + 1, 1, none⟩ = some (.slice B' N'.length cb') := fun n => n.ok.d1
          have HS : SA w A L ca B N cb A' L' ca' B' N' cb' x0 x1 w' := ⟨⟨_, R0⟩, ⟨_, R1⟩, e0, e1, e2, e3, P0.out, P1.out, GW⟩
          have hne : Nonempty (InP (SA w A L ca B N cb A' L' ca' B' N' cb' x0 x1)) := ⟨⟨_, HS⟩⟩
          have heq : ((⟨(encP L N).toArray⟩ : ByteArray).toList == (⟨(encP L' N').toArray⟩ : ByteArray).toList) = decide (L = L' ∧ N = N') := by
            rw [ByteArray.toList_eq, ByteArray.toList_eq]
            by_cases h : L = L' ∧ N = N'
            · obtain ⟨rfl, rfl⟩ := h
              simp
            · rw [decide_eq_false h, beq_eq_false_iff_ne]
              intro e
              have e' : encP L N = encP L' N' := by simpa using e
              exact h ⟨(HP.out e').1, (HP.out e').2.1⟩
          have heq2 : (encP L N == encP L' N') = (decide (L = L') && decide (N = N')) := by
            by_cases h : L = L' ∧ N = N'
            · obtain ⟨rfl, rfl⟩ := h
              simp
            · have h9 : ¬ encP L N = encP L' N' := fun e' => h ⟨(HP.out e').1, (HP.out e').2.1⟩
              rw [beq_eq_false_iff_ne.2 h9, ← Bool.decide_and, decide_eq_false h]
          refine region_p (S := SA w A L ca B N cb A' L' ca' B' N' cb' x0 x1) (by kernel_rfl) (by kernel_rfl) (HS.grown (grown_drewN (Grown.refl _) 1)) ?_
          repeat (go_big_quiet_step (exact toP (fun a b h g => SA.grown h g) (same_any (SA.p0 (InP.ok _)) (SA.p1 (InP.ok _)))))
          refine wpQuiet_nil ?_
          intro _ hw'
          obtain ⟨nq, rfl⟩ := hw'
          go_wp2
          go_ret
          exact ⟨by simp, nq.ok.gw⟩
        · obtain ⟨x, hx⟩ : ∃ x, errP L' N' = x := ⟨_, rfl⟩
          have E1' : (x == 0) = false := by rw [beq_eq_false_iff_ne]; rw [hx] at E1; exact E1
          have Y0 := fun {W : World} (h : POk W A L ca B N cb) => post_zero (Y0 h) E0
          have Y1 := fun {W : World} (h : POk W A' L' ca' B' N' cb') => post_bad (Y1 h) hx (by rw [hx] at E1; exact E1)
          have E2' : (x != 0) = true := by simp [bne, E1']
          rw [hx] at E1
          clear E0 hx
          go_wp2_with (first | (go_at_call 10; with_reducible refine (awake_any (hT.gw GB)).mono ?_; rintro e w' ⟨rfl, G1⟩; have e0 := G1.cell c0; have e1 := G1.cell c1; have e2 := G1.cell d0; have e3 := G1.cell d1; have P0 := Lib.hid (p0.gw G1); have P1 := Lib.hid (p1.gw G1); have GW := GB.trans G1) | (go_at_call 11; with_reducible refine (S0 P0.out).mono ?_; rintro e w' ⟨rfl, G2⟩; have G2 := Grown.gw G2; have e0 := G2.cell e0; have e1 := G2.cell e1; have e2 := G2.cell e2; have e3 := G2.cell e3; have P0 := Lib.hid (P0.out.gw G2); have P1 := Lib.hid (P1.out.gw G2); have GW := GW.trans G2) | (go_at_call 11; with_reducible refine (S1 P1.out).mono ?_; rintro e w' ⟨rfl, G2⟩; have G2 := Grown.gw G2; have e0 := G2.cell e0; have e1 := G2.cell e1; have e2 := G2.cell e2; have e3 := G2.cell e3; have P0 := Lib.hid (P0.out.gw G2); have P1 := Lib.hid (P1.out.gw G2); have GW := GW.trans G2) | (go_at_call 12; with_reducible refine (Y0 P0.out).mono ?_; rintro e w' ⟨x0, rfl, R0⟩; have G2 := R0.gw; have e0 := G2.cell e0; have e1 := G2.cell e1; have e2 := G2.cell e2; have e3 := G2.cell e3; have P0 := Lib.hid (P0.out.gw G2); have P1 := Lib.hid (P1.out.gw G2); have GW := GW.trans G2) | (go_at_call 12; with_reducible refine (Y1 P1.out).mono ?_; rintro e w' ⟨x1, rfl, R1⟩; have G2 := R1.gw; have e0 := G2.cell e0; have e1 := G2.cell e1; have e2 := G2.cell e2; have e3 := G2.cell e3; have P0 := Lib.hid (P0.out.gw G2); have P1 := Lib.hid (P1.out.gw G2); have GW := GW.trans G2; have R0 := R0.keep G2))
          go_quiet (fail)
          go_wp2
          go_ret
          exact ⟨rfl, GW.trans (Grown.gw (grown_drewN (Grown.refl _) _))⟩
      · obtain ⟨x, hx⟩ : ∃ x, errP L N = x := ⟨_, rfl⟩
        have E0' : (x == 0) = false := by rw [beq_eq_false_iff_ne]; rw [hx] at E0; exact E0
        have Y0 := fun {W : World} (h : POk W A L ca B N cb) => post_bad (Y0 h) hx (by rw [hx] at E0; exact E0)
        have E2' : (x != 0) = true := by simp [bne, E0']
        rw [hx] at E0
        clear hx
        go_wp2_with (first | (go_at_call 10; with_reducible refine (awake_any (hT.gw GB)).mono ?_; rintro e w' ⟨rfl, G1⟩; have e0 := G1.cell c0; have e1 := G1.cell c1; have e2 := G1.cell d0; have e3 := G1.cell d1; have P0 := Lib.hid (p0.gw G1); have P1 := Lib.hid (p1.gw G1); have GW := GB.trans G1) | (go_at_call 11; with_reducible refine (S0 P0.out).mono ?_; rintro e w' ⟨rfl, G2⟩; have G2 := Grown.gw G2; have e0 := G2.cell e0; have e1 := G2.cell e1; have e2 := G2.cell e2; have e3 := G2.cell e3; have P0 := Lib.hid (P0.out.gw G2); have P1 := Lib.hid (P1.out.gw G2); have GW := GW.trans G2) | (go_at_call 11; with_reducible refine (S1 P1.out).mono ?_; rintro e w' ⟨rfl, G2⟩; have G2 := Grown.gw G2; have e0 := G2.cell e0; have e1 := G2.cell e1; have e2 := G2.cell e2; have e3 := G2.cell e3; have P0 := Lib.hid (P0.out.gw G2); have P1 := Lib.hid (P1.out.gw G2); have GW := GW.trans G2) | (go_at_call 12; with_reducible refine (Y0 P0.out).mono ?_; rintro e w' ⟨x0, rfl, R0⟩; have G2 := R0.gw; have e0 := G2.cell e0; have e1 := G2.cell e1; have e2 := G2.cell e2; have e3 := G2.cell e3; have P0 := Lib.hid (P0.out.gw G2); have P1 := Lib.hid (P1.out.gw G2); have GW := GW.trans G2) | (go_at_call 12; with_reducible refine (Y1 P1.out).mono ?_; rintro e w' ⟨x1, rfl, R1⟩; have G2 := R1.gw; have e0 := G2.cell e0; have e1 := G2.cell e1; have e2 := G2.cell e2; have e3 := G2.cell e3; have P0 := Lib.hid (P0.out.gw G2); have P1 := Lib.hid (P1.out.gw G2); have GW := GW.trans G2; have R0 := R0.keep G2))
        go_quiet (fail)
        go_wp2
        go_ret
        exact ⟨rfl, GW.trans (Grown.gw (grown_drewN (Grown.refl _) _))⟩

theorem laidOut : laidOutB Tryd.prog = true := by kernel_rfl
set_option maxRecDepth 100000 in
theorem lifted (os : Os) (started : os.Started) (H : Type) (enc : TypeId × Value → H) :
    ReturnsInHanded {} Tryd.checked os 7 .any (fun w args => (Rows.progApartSpec.pre enc Tryd.prog Tryd.f7 [] false w args ∧ laidMetH Tryd.prog laidTab w) ∧ sizedMet enc Tryd.prog Tryd.f7 (OpenSpec.ofChange Rows.progApartSpec) false w args)
      (Rows.progApartSpec.post enc Tryd.prog Tryd.f7 false true false false) := by
  refine returnsInHanded_of_change_and (C := Tryd.checked) (X := fun w _ => laidMetH Tryd.prog laidTab w) (fun _ _ _ hh h => h.of_heap hh) ownDoor started (by kernel_rfl) Tryd.func7
    (ChangeSpec.witness_shaped (enc := enc) (C := Tryd.checked) (os := os) (X := fun w _ => laidMetH Tryd.prog laidTab w) false (World.doorLaid Tryd.prog 400 os) #[.agg #[.slice none 0 0, .slice none 0 0], .agg #[.slice none 0 0, .slice none 0 0]] 8 rfl (World.shaped_of_RefB (by kernel_rfl) (by kernel_rfl)) (by kernel_rfl) (by kernel_rfl) (by kernel_rfl) (door_met os _)) ?_
  intro W base args ds gs before hval0 hW _ hsz hL _
  have hval : ∀ (j : Nat) t v, Tryd.f7.params[j]? = some t → args[j]? = some v → Value.okWide Tryd.prog W .any base t v := hval0
  have hW' := hW
  obtain ⟨p, q, hA0, hV, rfl, hfz, hnd⟩ := hW
  have hA : DataW.TrodAll enc Tryd.prog W 0 (fun _ => true) true Tryd.f7.params.toList args.toList ds p := hA0
  rw [Tryd.params7] at hA hval
  obtain ⟨v0, vs0, d0, ds0, p0, q0, hargs, rfl, rfl, h0, r0⟩ := trodAll_cons hA
  obtain ⟨v1, vs1, d1, ds1, p1, q1, rfl, rfl, rfl, h1, r1⟩ := trodAll_cons r0
  obtain ⟨rfl, rfl, rfl⟩ := trodAll_nil r1
  obtain rfl : args = #[v0, v1] := by cases args; simp_all
  obtain ⟨rfl, rfl⟩ := trodVars_none hV
  have hz0 : ∀ n ∈ d0.weights Tryd.prog 25, n ≤ reachBytes := fun n hn => by
    have := List.all_eq_true.1 hsz n (DataW.weights_mem_each (j := 0) (t := 25) (d := d0) (by rfl) (by rfl) n hn)
    simpa using this
  have w0 : ProgIn W v0 := prog_open (hval 0 25 v0 rfl rfl) h0 hz0
  have hz1 : ∀ n ∈ d1.weights Tryd.prog 25, n ≤ reachBytes := fun n hn => by
    have := List.all_eq_true.1 hsz n (DataW.weights_mem_each (j := 1) (t := 25) (d := d1) (by rfl) (by rfl) n hn)
    simpa using this
  have w1 : ProgIn W v1 := prog_open (hval 1 25 v1 rfl rfl) h1 hz1
  have hT := of_laid hL
  clear hA0 hval0
  simp only [List.append_nil] at hW'
  have hlt := hW'.lt
  refine (walk v0 v1 W w0 w1 hT).mono fun e W' ⟨he, hg⟩ => ?_
  subst he
  have hs : ∀ {q : MemPlace}, q.block < W.heap.size → W.sameAt W' q := fun hq => Below.same hg.below hq
  exact ⟨_, rfl, post_kept hW' hg (fun _ _ _ => (trodAll_cons_mk (shut_bool Tryd.underlying4 _) trodAll_mk0)) (fun sp hsp => (trodAll_cons_mk (WideElems.Trod_stays laidOut (by kernel_rfl) (of_decide_eq_true (by kernel_rfl)) h0 (fun x hx => hs (hlt x (by first | exact hx | (simp; first | exact .inl hx | exact .inr hx | exact hx | exact .inr (.inl hx) | exact .inr (.inr hx))))) (fun x hx => hsp x (by first | exact hx | (simp; first | exact .inl hx | exact .inr hx | exact hx | exact .inr (.inl hx) | exact .inr (.inr hx))))) (trodAll_cons_mk (WideElems.Trod_stays laidOut (by kernel_rfl) (of_decide_eq_true (by kernel_rfl)) h1 (fun x hx => hs (hlt x (by first | exact hx | (simp; first | exact .inl hx | exact .inr hx | exact hx | exact .inr (.inl hx) | exact .inr (.inr hx))))) (fun x hx => hsp x (by first | exact hx | (simp; first | exact .inl hx | exact .inr hx | exact hx | exact .inr (.inl hx) | exact .inr (.inr hx))))) trodAll_mk0))) (fun _ _ => rfl) (by first | rfl | simp)
    (ok_one (by kernel_rfl) rfl (okWide_bool_mk Tryd.underlying4 _))⟩

theorem over : Rows.ProgApartSaid :=
  OpenClaim.holds_of_wide 7 Tryd.f7 rfl rfl rfl rfl rfl rfl rfl ⟨rfl, rfl, rfl, rfl, rfl⟩ rfl rfl rfl rfl rfl (by kernel_rfl) Tryd.func7 (by kernel_rfl)
    (of_decide_eq_true (by kernel_rfl)) (by unfold Func.isWrapper; first | (rw [if_pos (by decide +kernel)]; kernel_rfl) | (rw [if_neg (by decide +kernel)]; exact ⟨rfl, rfl⟩))
    (fun os started H enc _ => lifted os started H enc)

theorem proved : Rows.ProgApartCardSaid :=
  Claim7.holds_tied_plain_at .later [] [.data, .data, .data] true _ false
    over (fun _ h => by cases h) (by kernel_rfl) (fun _ h => by cases h) progApart_row_tie rfl ⟨rfl, rfl⟩ (by kernel_rfl) rfl
    (fun f fn hf hfn => by
      obtain rfl : f = 7 := Option.some.inj ((show Tryd.prog.funcNamed "crossroads/crossroadslaw10.ProgApart" = some 7 by kernel_rfl).symm.trans hf) |>.symm
      obtain rfl : fn = Tryd.f7 := (Option.some.inj (Tryd.func7.symm.trans hfn)).symm
      exact ⟨by kernel_rfl, fun j t ht => by
        rw [Tryd.params7] at ht
        have hm : t ∈ ([25, 25] : List TypeId) := by simpa using Array.mem_of_getElem? ht
        have hall : (([25, 25] : List TypeId).all fun u => !Tryd.prog.wantsStandIn u) = true := by kernel_rfl
        exact (show Tryd.prog.wantsStandIn t = false by simpa using List.all_eq_true.1 hall t hm)⟩)
    (by kernel_rfl)
#print axioms proved
end Go.Proofs.YtcecmkelefhaaaaDoor.progApart
