/-
  The law ProgReads: bytes are read as a program whose bytes they are, or as none for one of three reasons. No condition.
-/
import Derived.Test.YtcecmkelefhaaaaDoorProgV
namespace Go.Proofs.YtcecmkelefhaaaaDoor.progReads
open Go.ChangeShapes Go.WideShapes Go.ChangeAt Go.RowKit Go.Joins
set_option linter.unusedVariables false

theorem by_of {w : World} {v : Value} (h : BytesIn w v) : ∃ (A : Option Addr) (l : List UInt8) (cap : Nat), v = .slice A l.length cap ∧ l.length ≤ cap ∧ cap ≤ 9223372036854775807 ∧ ByAt w A l := by
  obtain ⟨A, l, cap, rfl, h1, h2, h3, h4⟩ := h
  refine ⟨A, l.map fun z => UInt8.ofNat z.toNat, cap, by rw [List.length_map], by rw [List.length_map]; exact h1, h2, fun i z hz => ?_⟩
  rw [List.getElem?_map] at hz
  cases hl : l[i]? with
  | none => rw [hl] at hz; cases hz
  | some y =>
    rw [hl] at hz
    simp only [Option.map_some, Option.some.injEq] at hz
    obtain ⟨b, off, e, hb, hc⟩ := h3 i y hl
    refine ⟨b, off, e, hb, ?_⟩
    obtain ⟨y0, y1⟩ := h4 y (List.mem_of_getElem? hl)
    rw [hc, ← hz, UInt8.toNat_ofNat']
    have : ((y.toNat % 2 ^ 8 : Nat) : Int) = y := by omega
    rw [this]
theorem by_on {w W : World} {A : Option Addr} {l : List UInt8} (h : ByAt w A l) (G : Gw w W) : ByAt W A l := fun i z hz => by
  obtain ⟨b, off, e, h1, h2⟩ := h i z hz
  exact ⟨b, off, e, Nat.lt_of_lt_of_le h1 G.size, G.cell h2⟩
theorem errR_is {l : List UInt8} : errR l = 0 ∨ errR l = 4 ∨ errR l = 3 ∨ errR l = 5 := by
  unfold errR
  split
  · unfold errP
    split
    · exact .inr (.inr (.inl rfl))
    · split
      · rename_i h
        exfalso
        obtain ⟨s, hs, h2⟩ := List.any_eq_true.1 h
        have := (par_raw l).s s hs
        simp at h2
        omega
      · split
        · exact .inl rfl
        · exact .inr (.inr (.inr rfl))
  · exact .inr (.inl rfl)
theorem errR_zero {l : List UInt8} (h : errR l = 0) : encP (par l).L (par l).N = l ∧ errP (par l).L (par l).N = 0 := by
  unfold errR at h
  split at h
  · rename_i h1
    exact ⟨par_back h1, h⟩
  · cases h
theorem total_max (N : List ByteArray) (h : ∀ s ∈ N, s.size ≤ 255) : total N ≤ N.length * 255 := by
  have := total_le 255 N h N.length
  rwa [List.take_length] at this
set_option maxHeartbeats 8000000 in
theorem walk (v0 : Value) (w : World) (w0 : BytesIn w v0) (hT : Tb w) :
    Calls Tryd.prog 4 #[v0] w fun e w' => e = .returned (.bool true) ∧ Gw w w' := by
  obtain ⟨A, l, cap, rfl, h1, h2, h3⟩ := by_of w0
  have AW := awake_any hT
  by_cases hl : 3000 < l.length
  · have hl' : (3000 : Int) < l.length := by omega
    clear h3
    go_enter Tryd.func4, Tryd.ntmps4
    go_wp2_with (go_at_call 10; with_reducible refine (AW).mono ?_; rintro e w1 ⟨rfl, G1⟩)
    go_ret
    exact ⟨rfl, G1⟩
  · have hl' : decide ((3000 : Int) < l.length) = false := decide_eq_false (by omega)
    have RC : ∀ {W : World}, Gw w W → Calls Tryd.prog 14 #[.slice A l.length cap] W (ReadPost l W) := fun G => read_any (by_on h3 G) h1 h2
    have HB := Lib.hid h3
    unfold ReadPost at RC
    clear h3
    rcases errR_is (l := l) with hr | hr
    · obtain ⟨hp1, hp2⟩ := errR_zero hr
      rw [hr] at RC
      simp only [if_true] at RC
      generalize (par l).L = L at *
      generalize (par l).N = N at *
      obtain ⟨a1, a2, a3, a4⟩ := err0_is hp2
      have HTo := total_max N a3
      have Z0 := fun {W : World} {A B : Option Addr} {ca cb : Nat} (h : POk W A L ca B N cb) => post_zero (rbytes_any h (by omega) (by omega) (by omega)) hp2
      rw [hp1] at Z0
      clear a1 a2 a3 a4 HTo hp1 hp2
      go_enter Tryd.func4, Tryd.ntmps4
      go_upto_region 6 with (first | (go_at_call 10; with_reducible refine (AW).mono ?_; rintro e w1 ⟨rfl, G1⟩) | (go_at_call 14; with_reducible refine ((RC G1)).mono ?_; rintro e w2 ⟨C, ca, D, cb, rfl, PQ, G2⟩; have GA := Gw.alloc w2 (.cells #[.slice C L.length ca, .slice D N.length cb] 25); have GW := Lib.hid (G1.trans (G2.trans GA)); obtain ⟨y0, y1, _, _⟩ := two_cells (heap_alloc_new w2 (.cells #[.slice C L.length ca, .slice D N.length cb] 25)); have PQ5 := Lib.hid (PQ.gw GA)))
      clear PQ G2 GA G1 RC
      generalize w2.alloc (.cells #[.slice C L.length ca, .slice D N.length cb] 25) = w3 at *
      generalize w2.heap.size = qb at *
      go_wp2_with (go_at_call 13; with_reducible refine ((Z0 PQ5.out)).mono ?_; rintro e w4 ⟨x1, rfl, R1⟩; have G4 := R1.gw; have q1 := R1.back; have q0 := conv_by (cap := cap) HB.out (GW.out.trans G4))
      go_ret
      exact ⟨rfl, GW.out.trans G4⟩
    · obtain ⟨x, hx⟩ : ∃ x, errR l = x := ⟨_, rfl⟩
      rw [hx] at hr RC
      have E0 : ¬ x = 0 := by rcases hr with hr | hr | hr <;> rw [hr] <;> decide
      have E1 : (x == 0) = false := by rw [beq_eq_false_iff_ne]; exact E0
      simp only [if_neg E0, List.length_nil] at RC
      clear hx E0
      rcases hr with rfl | rfl | rfl
      all_goals
        go_enter Tryd.func4, Tryd.ntmps4
        go_wp2_with (first | (go_at_call 10; with_reducible refine (AW).mono ?_; rintro e w1 ⟨rfl, G1⟩) | (go_at_call 14; with_reducible refine ((RC G1)).mono ?_; rintro e w2 ⟨C, ca, D, cb, rfl, PQ, G2⟩; have GA := Gw.alloc w2 (.cells #[.slice C 0 ca, .slice D 0 cb] 25); have GW := Lib.hid (G1.trans (G2.trans GA)); obtain ⟨y0, y1, _, _⟩ := two_cells (heap_alloc_new w2 (.cells #[.slice C 0 ca, .slice D 0 cb] 25))))
        go_ret
        exact ⟨rfl, GW.out⟩

theorem laidOut : laidOutB Tryd.prog = true := by kernel_rfl
set_option maxRecDepth 100000 in
theorem lifted (os : Os) (started : os.Started) (H : Type) (enc : TypeId × Value → H) :
    ReturnsInHanded {} Tryd.checked os 4 .any (fun w args => (Rows.progReadsSpec.pre enc Tryd.prog Tryd.f4 [] false w args ∧ laidMetH Tryd.prog laidTab w) ∧ sizedMet enc Tryd.prog Tryd.f4 (OpenSpec.ofChange Rows.progReadsSpec) false w args)
      (Rows.progReadsSpec.post enc Tryd.prog Tryd.f4 false true false false) := by
  refine returnsInHanded_of_change_and (C := Tryd.checked) (X := fun w _ => laidMetH Tryd.prog laidTab w) (fun _ _ _ hh h => h.of_heap hh) ownDoor started (by kernel_rfl) Tryd.func4
    (ChangeSpec.witness_shaped (enc := enc) (C := Tryd.checked) (os := os) (X := fun w _ => laidMetH Tryd.prog laidTab w) false (World.doorLaid Tryd.prog 400 os) #[.slice none 0 0] 8 rfl (World.shaped_of_RefB (by kernel_rfl) (by kernel_rfl)) (by kernel_rfl) (by kernel_rfl) (by kernel_rfl) (door_met os _)) ?_
  intro W base args ds gs before hval0 hW _ hsz hL _
  have hval : ∀ (j : Nat) t v, Tryd.f4.params[j]? = some t → args[j]? = some v → Value.okWide Tryd.prog W .any base t v := hval0
  have hW' := hW
  obtain ⟨p, q, hA0, hV, rfl, hfz, hnd⟩ := hW
  have hA : DataW.TrodAll enc Tryd.prog W 0 (fun _ => true) true Tryd.f4.params.toList args.toList ds p := hA0
  rw [Tryd.params4] at hA hval
  obtain ⟨v0, vs0, d0, ds0, p0, q0, hargs, rfl, rfl, h0, r0⟩ := trodAll_cons hA
  obtain ⟨rfl, rfl, rfl⟩ := trodAll_nil r0
  obtain rfl : args = #[v0] := by cases args; simp_all
  obtain ⟨rfl, rfl⟩ := trodVars_none hV
  have hz0 : ∀ n ∈ d0.weights Tryd.prog 28, n ≤ reachBytes := fun n hn => by
    have := List.all_eq_true.1 hsz n (DataW.weights_mem_each (j := 0) (t := 28) (d := d0) (by rfl) (by rfl) n hn)
    simpa using this
  have w0 : BytesIn W v0 := bytes_open (hval 0 28 v0 rfl rfl) h0
  have hT := of_laid hL
  clear hA0 hval0
  simp only [List.append_nil] at hW'
  have hlt := hW'.lt
  refine (walk v0 W w0 hT).mono fun e W' ⟨he, hg⟩ => ?_
  subst he
  have hs : ∀ {q : MemPlace}, q.block < W.heap.size → W.sameAt W' q := fun hq => Below.same hg.below hq
  exact ⟨_, rfl, post_kept hW' hg (fun _ _ _ => (trodAll_cons_mk (shut_bool Tryd.underlying4 _) trodAll_mk0)) (fun sp hsp => (trodAll_cons_mk (WideElems.Trod_stays laidOut (by kernel_rfl) (of_decide_eq_true (by kernel_rfl)) h0 (fun x hx => hs (hlt x (by first | exact hx | (simp; first | exact .inl hx | exact .inr hx | exact hx | exact .inr (.inl hx) | exact .inr (.inr hx))))) (fun x hx => hsp x (by first | exact hx | (simp; first | exact .inl hx | exact .inr hx | exact hx | exact .inr (.inl hx) | exact .inr (.inr hx))))) trodAll_mk0)) (fun _ _ => rfl) (by first | rfl | simp)
    (ok_one (by kernel_rfl) rfl (okWide_bool_mk Tryd.underlying4 _))⟩

theorem over : Rows.ProgReadsSaid :=
  OpenClaim.holds_of_wide 4 Tryd.f4 rfl rfl rfl rfl rfl rfl rfl ⟨rfl, rfl, rfl, rfl, rfl⟩ rfl rfl rfl rfl rfl (by kernel_rfl) Tryd.func4 (by kernel_rfl)
    (of_decide_eq_true (by kernel_rfl)) (by unfold Func.isWrapper; first | (rw [if_pos (by decide +kernel)]; kernel_rfl) | (rw [if_neg (by decide +kernel)]; exact ⟨rfl, rfl⟩))
    (fun os started H enc _ => lifted os started H enc)

theorem proved : Rows.ProgReadsCardSaid :=
  Claim7.holds_tied_plain_at .later [] [.data, .data, .data] true _ false
    over (fun _ h => by cases h) (by kernel_rfl) (fun _ h => by cases h) progReads_row_tie rfl ⟨rfl, rfl⟩ (by kernel_rfl) rfl
    (fun f fn hf hfn => by
      obtain rfl : f = 4 := Option.some.inj ((show Tryd.prog.funcNamed "crossroads/crossroadslaw10.ProgReads" = some 4 by kernel_rfl).symm.trans hf) |>.symm
      obtain rfl : fn = Tryd.f4 := (Option.some.inj (Tryd.func4.symm.trans hfn)).symm
      exact ⟨by kernel_rfl, fun j t ht => by
        rw [Tryd.params4] at ht
        have hm : t ∈ ([28] : List TypeId) := by simpa using Array.mem_of_getElem? ht
        have hall : (([28] : List TypeId).all fun u => !Tryd.prog.wantsStandIn u) = true := by kernel_rfl
        exact (show Tryd.prog.wantsStandIn t = false by simpa using List.all_eq_true.1 hall t hm)⟩)
    (by kernel_rfl)
#print axioms proved
end Go.Proofs.YtcecmkelefhaaaaDoor.progReads
