/-
  The law ProgBytes: a program has the bytes that the document says, or none for the reason that it says; read they are the program. No condition.
-/
import Derived.Test.YtcecmkelefhaaaaDoorProgV
namespace Go.Proofs.YtcecmkelefhaaaaDoor.progBytes
open Go.ChangeShapes Go.WideShapes Go.ChangeAt Go.RowKit Go.Joins
set_option linter.unusedVariables false

set_option maxHeartbeats 8000000 in
theorem walk (v0 : Value) (w : World) (w0 : ProgIn w v0) (hT : Tb w) :
    Calls Tryd.prog 3 #[v0] w fun e w' => e = .returned (.bool true) ∧ Gw w w' := by
  obtain ⟨A, L, ca, B, N, cb, rfl, h0⟩ := w0
  obtain ⟨W1, hW1⟩ : ∃ W1, W1 = w.alloc (.cells #[.slice A L.length ca, .slice B N.length cb] 25) := ⟨_, rfl⟩
  have GB := Gw.alloc w (.cells #[.slice A L.length ca, .slice B N.length cb] 25)
  obtain ⟨c0, c1, _, _⟩ := two_cells (heap_alloc_new w (.cells #[.slice A L.length ca, .slice B N.length cb] 25))
  rw [← hW1] at GB c0 c1
  have p0 := h0.gw GB
  have AW := awake_any (hT.gw GB)
  clear h0
  have S0 : ∀ {W : World}, POk W A L ca B N cb → Calls Tryd.prog 11 #[.agg #[.slice A L.length ca, .slice B N.length cb]] W fun e W' => e = .returned (.bool (smallB L N)) ∧ Grown W W' := fun h => small_any h
  have hn : ∀ b w, (Op.unary .not (.bool b)).run Tryd.prog w = .ok (.bool (!b)) w := fun _ _ => rfl
  cases hb0 : smallB L N with
  | false =>
    rw [hb0] at S0
    go_enter Tryd.func3, Tryd.ntmps3
    go_upto_region 1 with fail
    rw [← hW1]
    clear hW1
    go_wp2_with (first | (go_at_call 10; with_reducible refine (AW).mono ?_; rintro e w1 ⟨rfl, G1⟩; have e0 := G1.cell c0; have e1 := G1.cell c1; have P0 := Lib.hid (p0.gw G1); have GW := GB.trans G1) | (go_at_call 11; with_reducible refine (S0 P0.out).mono ?_; rintro e w2 ⟨rfl, G2⟩; have G2 := Grown.gw G2; have e0 := G2.cell e0; have e1 := G2.cell e1; have P0 := Lib.hid (P0.out.gw G2); have GW := GW.trans G2))
    go_ret
    exact ⟨rfl, GW⟩
  | true =>
    rw [hb0] at S0
    obtain ⟨s1, s2, s3⟩ := small_is hb0
    have Y0 := fun {W : World} (h : POk W A L ca B N cb) => bytes_any h
    have Z0 := fun {W : World} (h : POk W A L ca B N cb) => rbytes_any h s1 s2 s3
    clear hb0 s1 s2 s3
    by_cases E0 : errP L N = 0
    · have Y0 := fun {W : World} (h : POk W A L ca B N cb) => post_zero (Y0 h) E0
      have Z0 := fun {W : World} (h : POk W A L ca B N cb) => post_zero (Z0 h) E0
      obtain ⟨hp1, hp2⟩ := read_enc E0
      have RC : ∀ {w0 W : World} {v : Value}, BRel w0 W v (encP L N) → Calls Tryd.prog 14 #[v] W fun e W' => ∃ C ca B cb, e = .returned (.tuple #[.agg #[.slice C L.length ca, .slice B N.length cb], .int .i64 0]) ∧ POk W' C L ca B N cb ∧ Gw W W' := fun h => by
        have := read_row h
        unfold ReadPost at this
        rw [hp2, hp1] at this
        simpa using this
      clear E0 hp1 hp2
      generalize hz : encP L N = z at *
      clear hz
      go_enter Tryd.func3, Tryd.ntmps3
      go_upto_region 1 with fail
      rw [← hW1]
      clear hW1
      go_upto_region 11 with (first | (go_at_call 10; with_reducible refine (AW).mono ?_; rintro e w1 ⟨rfl, G1⟩; have e0 := G1.cell c0; have e1 := G1.cell c1; have P0 := Lib.hid (p0.gw G1); have GW := GB.trans G1) | (go_at_call 11; with_reducible refine (S0 P0.out).mono ?_; rintro e w2 ⟨rfl, G2⟩; have G2 := Grown.gw G2; have e0 := G2.cell e0; have e1 := G2.cell e1; have P0 := Lib.hid (P0.out.gw G2); have GW := GW.trans G2) | (go_at_call 12; with_reducible refine (Y0 P0.out).mono ?_; rintro e w3 ⟨x0, rfl, R0⟩; have G2 := R0.gw; have e0 := G2.cell e0; have e1 := G2.cell e1; have P0 := Lib.hid (P0.out.gw G2); have GW := GW.trans G2) | (go_at_call 13; with_reducible refine (Z0 P0.out).mono ?_; rintro e w4 ⟨x1, rfl, R1⟩; have G2 := R1.gw; have e0 := G2.cell e0; have e1 := G2.cell e1; have P0 := Lib.hid (P0.out.gw G2); have GW := GW.trans G2; have R0 := R0.keep G2; have q0 := R0.back; have q1 := R1.back))
      have RC4 := RC R0
      clear q0 q1 R1 RC Y0 Z0 S0
      have GWH := Lib.hid GW
      go_upto_region 12 with (go_at_call 14; with_reducible refine (RC4).mono ?_; rintro e w5 ⟨C, ca2, D, cb2, rfl, PQ, G5⟩; have GA := Gw.alloc w5 (.cells #[.slice C L.length ca2, .slice D N.length cb2] 25); have PQ5 := Lib.hid (PQ.gw GA); have G6 := G5.trans GA; have e0 := G6.cell e0; have e1 := G6.cell e1; have P6 := Lib.hid (P0.out.gw G6); have GW6 := Lib.hid (GWH.out.trans G6); obtain ⟨y0, y1, _, _⟩ := two_cells (heap_alloc_new w5 (.cells #[.slice C L.length ca2, .slice D N.length cb2] 25)))
      clear PQ G5 GA G6
      have SC := same_any P6.out PQ5.out
      rw [show decide (L = L ∧ N = N) = true from decide_eq_true ⟨rfl, rfl⟩] at SC
      generalize w5.alloc (.cells #[.slice C L.length ca2, .slice D N.length cb2] 25) = w6 at *
      generalize w5.heap.size = qb at *
      go_wp2_with (go_at_call 15; with_reducible refine (SC).mono ?_; rintro e w7 ⟨rfl, G7⟩)
      go_ret
      exact ⟨rfl, GW6.out.trans (Grown.gw G7)⟩
    · obtain ⟨x, hx⟩ : ∃ x, errP L N = x := ⟨_, rfl⟩
      have E1 : (x == 0) = false := by rw [beq_eq_false_iff_ne]; rw [hx] at E0; exact E0
      have E2 : (x != 0) = true := by simp [bne, E1]
      have Y0 := fun {W : World} (h : POk W A L ca B N cb) => post_bad (Y0 h) hx (by rw [hx] at E0; exact E0)
      have Z0 := fun {W : World} (h : POk W A L ca B N cb) => post_bad (Z0 h) hx (by rw [hx] at E0; exact E0)
      clear E0 hx
      go_enter Tryd.func3, Tryd.ntmps3
      go_upto_region 1 with fail
      rw [← hW1]
      clear hW1
      go_wp2_with (first | (go_at_call 10; with_reducible refine (AW).mono ?_; rintro e w1 ⟨rfl, G1⟩; have e0 := G1.cell c0; have e1 := G1.cell c1; have P0 := Lib.hid (p0.gw G1); have GW := GB.trans G1) | (go_at_call 11; with_reducible refine (S0 P0.out).mono ?_; rintro e w2 ⟨rfl, G2⟩; have G2 := Grown.gw G2; have e0 := G2.cell e0; have e1 := G2.cell e1; have P0 := Lib.hid (P0.out.gw G2); have GW := GW.trans G2) | (go_at_call 12; with_reducible refine (Y0 P0.out).mono ?_; rintro e w3 ⟨x0, rfl, R0⟩; have G2 := R0.gw; have e0 := G2.cell e0; have e1 := G2.cell e1; have P0 := Lib.hid (P0.out.gw G2); have GW := GW.trans G2) | (go_at_call 13; with_reducible refine (Z0 P0.out).mono ?_; rintro e w4 ⟨x1, rfl, R1⟩; have G2 := R1.gw; have e0 := G2.cell e0; have e1 := G2.cell e1; have P0 := Lib.hid (P0.out.gw G2); have GW := GW.trans G2; have R0 := R0.keep G2; have q0 := R0.back; have q1 := R1.back))
      go_ret
      exact ⟨rfl, GW⟩

theorem laidOut : laidOutB Tryd.prog = true := by kernel_rfl
set_option maxRecDepth 100000 in
theorem lifted (os : Os) (started : os.Started) (H : Type) (enc : TypeId × Value → H) :
    ReturnsInHanded {} Tryd.checked os 3 .any (fun w args => (Rows.progBytesSpec.pre enc Tryd.prog Tryd.f3 [] false w args ∧ laidMetH Tryd.prog laidTab w) ∧ sizedMet enc Tryd.prog Tryd.f3 (OpenSpec.ofChange Rows.progBytesSpec) false w args)
      (Rows.progBytesSpec.post enc Tryd.prog Tryd.f3 false true false false) := by
  refine returnsInHanded_of_change_and (C := Tryd.checked) (X := fun w _ => laidMetH Tryd.prog laidTab w) (fun _ _ _ hh h => h.of_heap hh) ownDoor started (by kernel_rfl) Tryd.func3
    (ChangeSpec.witness_shaped (enc := enc) (C := Tryd.checked) (os := os) (X := fun w _ => laidMetH Tryd.prog laidTab w) false (World.doorLaid Tryd.prog 400 os) #[.agg #[.slice none 0 0, .slice none 0 0]] 8 rfl (World.shaped_of_RefB (by kernel_rfl) (by kernel_rfl)) (by kernel_rfl) (by kernel_rfl) (by kernel_rfl) (door_met os _)) ?_
  intro W base args ds gs before hval0 hW _ hsz hL _
  have hval : ∀ (j : Nat) t v, Tryd.f3.params[j]? = some t → args[j]? = some v → Value.okWide Tryd.prog W .any base t v := hval0
  have hW' := hW
  obtain ⟨p, q, hA0, hV, rfl, hfz, hnd⟩ := hW
  have hA : DataW.TrodAll enc Tryd.prog W 0 (fun _ => true) true Tryd.f3.params.toList args.toList ds p := hA0
  rw [Tryd.params3] at hA hval
  obtain ⟨v0, vs0, d0, ds0, p0, q0, hargs, rfl, rfl, h0, r0⟩ := trodAll_cons hA
  obtain ⟨rfl, rfl, rfl⟩ := trodAll_nil r0
  obtain rfl : args = #[v0] := by cases args; simp_all
  obtain ⟨rfl, rfl⟩ := trodVars_none hV
  have hz0 : ∀ n ∈ d0.weights Tryd.prog 25, n ≤ reachBytes := fun n hn => by
    have := List.all_eq_true.1 hsz n (DataW.weights_mem_each (j := 0) (t := 25) (d := d0) (by rfl) (by rfl) n hn)
    simpa using this
  have w0 : ProgIn W v0 := prog_open (hval 0 25 v0 rfl rfl) h0 hz0
  have hT := of_laid hL
  clear hA0 hval0
  simp only [List.append_nil] at hW'
  have hlt := hW'.lt
  refine (walk v0 W w0 hT).mono fun e W' ⟨he, hg⟩ => ?_
  subst he
  have hs : ∀ {q : MemPlace}, q.block < W.heap.size → W.sameAt W' q := fun hq => Below.same hg.below hq
  exact ⟨_, rfl, post_kept hW' hg (fun _ _ _ => (trodAll_cons_mk (shut_bool Tryd.underlying4 _) trodAll_mk0)) (fun sp hsp => (trodAll_cons_mk (WideElems.Trod_stays laidOut (by kernel_rfl) (of_decide_eq_true (by kernel_rfl)) h0 (fun x hx => hs (hlt x (by first | exact hx | (simp; first | exact .inl hx | exact .inr hx | exact hx | exact .inr (.inl hx) | exact .inr (.inr hx))))) (fun x hx => hsp x (by first | exact hx | (simp; first | exact .inl hx | exact .inr hx | exact hx | exact .inr (.inl hx) | exact .inr (.inr hx))))) trodAll_mk0)) (fun _ _ => rfl) (by first | rfl | simp)
    (ok_one (by kernel_rfl) rfl (okWide_bool_mk Tryd.underlying4 _))⟩

theorem over : Rows.ProgBytesSaid :=
  OpenClaim.holds_of_wide 3 Tryd.f3 rfl rfl rfl rfl rfl rfl rfl ⟨rfl, rfl, rfl, rfl, rfl⟩ rfl rfl rfl rfl rfl (by kernel_rfl) Tryd.func3 (by kernel_rfl)
    (of_decide_eq_true (by kernel_rfl)) (by unfold Func.isWrapper; first | (rw [if_pos (by decide +kernel)]; kernel_rfl) | (rw [if_neg (by decide +kernel)]; exact ⟨rfl, rfl⟩))
    (fun os started H enc _ => lifted os started H enc)

theorem proved : Rows.ProgBytesCardSaid :=
  Claim7.holds_tied_plain_at .later [] [.data, .data, .data] true _ false
    over (fun _ h => by cases h) (by kernel_rfl) (fun _ h => by cases h) progBytes_row_tie rfl ⟨rfl, rfl⟩ (by kernel_rfl) rfl
    (fun f fn hf hfn => by
      obtain rfl : f = 3 := Option.some.inj ((show Tryd.prog.funcNamed "crossroads/crossroadslaw10.ProgBytes" = some 3 by kernel_rfl).symm.trans hf) |>.symm
      obtain rfl : fn = Tryd.f3 := (Option.some.inj (Tryd.func3.symm.trans hfn)).symm
      exact ⟨by kernel_rfl, fun j t ht => by
        rw [Tryd.params3] at ht
        have hm : t ∈ ([25] : List TypeId) := by simpa using Array.mem_of_getElem? ht
        have hall : (([25] : List TypeId).all fun u => !Tryd.prog.wantsStandIn u) = true := by kernel_rfl
        exact (show Tryd.prog.wantsStandIn t = false by simpa using List.all_eq_true.1 hall t hm)⟩)
    (by kernel_rfl)
#print axioms proved
end Go.Proofs.YtcecmkelefhaaaaDoor.progBytes
