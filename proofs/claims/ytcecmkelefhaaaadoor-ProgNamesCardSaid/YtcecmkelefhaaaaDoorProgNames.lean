/-
  The law ProgNames: names of any bytes are kept as they are, in order. No condition.
-/
import Derived.Test.YtcecmkelefhaaaaDoorProgX
namespace Go.Proofs.YtcecmkelefhaaaaDoor.progNames
open Go.ChangeShapes Go.WideShapes Go.ChangeAt Go.RowKit Go.Joins
set_option linter.unusedVariables false

theorem any_succ {N : List ByteArray} {k : Nat} {s : ByteArray} (h : N[k]? = some s) : (N.take (k + 1)).any (fun s => decide (255 < s.size)) = ((N.take k).any (fun s => decide (255 < s.size)) || decide (255 < s.size)) := by
  obtain ⟨hi, he⟩ := List.getElem?_eq_some_iff.1 h
  rw [List.take_succ_eq_append_getElem hi, List.any_append, he]
  simp
theorem err_names (N : List ByteArray) : errP [] N = if 8 < N.length then 3 else if N.any (fun s => decide (255 < s.size)) then 10 else 0 := by
  unfold errP
  simp
theorem total_bd30 (N : List ByteArray) (hs : ∀ s ∈ N, s.size ≤ 140737488351232) (hN : N.length ≤ 30) (k : Nat) : total (N.take k) ≤ 14073748835532800 := total_bd N hs (by omega) k
theorem pok_names {W : World} {B : Option Addr} {N : List ByteArray} {cb : Nat} (lb : N.length ≤ cb) (mb : cb ≤ 9223372036854775807) (h : StrAt W B N) (hs : ∀ s ∈ N, s.size ≤ 140737488351232) : POk W none [] 0 B N cb :=
  ⟨Nat.le_refl _, by omega, lb, mb, (fun i x h => by rw [List.getElem?_nil] at h; cases h), h, hs, (fun x h => by cases h)⟩
set_option maxRecDepth 100000 in
set_option maxHeartbeats 8000000 in
theorem walk (v0 : Value) (w : World) (w0 : StrsIn w v0) (hT : Tb w) :
    Calls Tryd.prog 9 #[v0] w fun e w' => e = .returned (.bool true) ∧ Gw w w' := by
  obtain ⟨B, N, cb, rfl, lb, mb, hB, hs⟩ := w0
  have AW := awake_any hT
  have HB := Lib.hid hB
  have HS := Lib.hid hs
  have hl2 : (N.length : Int) ≤ 9223372036854775807 := by omega
  clear hB hs
  go_enter Tryd.func9, Tryd.ntmps9
  go_upto_region 3 with (go_at_call 10; with_reducible refine (AW).mono ?_; rintro e w1 ⟨rfl, G1⟩)
  have HB1 := Lib.hid ((pok_names lb mb HB.out HS.out).gw G1)
  clear AW hT HB
  go_wp2_with fail
  go_loopw [3, 4] (fun v i wr => ∃ (k : Nat) (n : Int), k ≤ N.length ∧ i = .int .i64 k ∧ v = .int .i64 n ∧ Hid (N.length ≤ 30 → n = total (N.take k)) ∧ wr = w1) (fun _ i _ => N.length - (intOf i).toNat)
  case atStart => exact ⟨0, 0, by omega, rfl, rfl, fun _ => by simp [total], rfl⟩
  case round =>
    obtain ⟨k, n, hk, rfl, rfl, HT, rfl⟩ := hrel
    by_cases hlt : k < N.length
    · obtain ⟨s, hs⟩ : ∃ s, N[k]? = some s := ⟨_, List.getElem?_eq_getElem hlt⟩
      obtain ⟨g, off, rfl, hg, hcell⟩ := HB1.out.str k s hs
      have HT2 : Hid (N.length ≤ 30 → wrap64 (n + s.size) = total (N.take (k + 1))) := fun hN => by
        rw [total_succ N k s hs, HT.out hN]
        have := total_bd30 N HS.out hN (k + 1)
        rw [total_succ N k s hs] at this
        rw [i64_wrap_in _ (by omega) (by omega)]
        omega
      clear HT hs
      go_wp2
      refine ⟨⟨k + 1, wrap64 (n + s.size), by omega, by go_num, rfl, HT2, trivial⟩, ?_⟩
      simp [intOf]
      omega
    · obtain rfl : k = N.length := by omega
      by_cases h30 : 30 < N.length
      · have h30' : (30 : Int) < N.length := by omega
        clear HT
        go_wp2
        go_ret
        exact ⟨rfl, G1⟩
      · have h30' : decide ((30 : Int) < N.length) = false := decide_eq_false (by omega)
        have hn : n = total N := by have := HT.out (by omega); rwa [List.take_length] at this
        subst hn
        clear HT
        by_cases h10 : 10000 < total N
        · have h10' : (10000 : Int) < total N := by omega
          go_wp2
          go_ret
          exact ⟨rfl, G1⟩
        · have h10' : decide ((10000 : Int) < total N) = false := decide_eq_false (by omega)
          have BC := bytes_any HB1.out
          have HX := Lib.hid (err_names N)
          have HEL := Lib.hid (encP_len [] N)
          have RE := fun h => read_enc (L := []) (N := N) h
          obtain ⟨x, hx⟩ : ∃ x, errP [] N = x := ⟨_, rfl⟩
          obtain ⟨z, hz⟩ : ∃ z, (if errP [] N = 0 then encP [] N else []) = z := ⟨_, rfl⟩
          have hbc : Calls Tryd.prog 12 #[.agg #[.slice none 0 0, .slice B N.length cb]] wr fun e w' => ∃ A c, e = .returned (.tuple #[.slice A z.length c, .int .i64 x]) ∧ BRel wr w' (.slice A z.length c) z := by
            refine BC.mono fun e w' ⟨v, he, hr⟩ => ?_
            rw [hz] at hr
            rw [hx] at he
            obtain ⟨A, c, rfl⟩ := hr.shape
            exact ⟨A, c, he, hr⟩
          clear BC
          have HXZ := Lib.hid hz
          rw [hx] at HX HXZ RE
          have hxh := Lib.hid hx
          clear hx hz
          go_upto_region 11 with (go_at_call 12; with_reducible refine (hbc).mono ?_; rintro e w2 ⟨A2, c2, rfl, R2⟩)
          have HP2 := Lib.hid (HB1.out.gw R2.gw)
          have GW := Lib.hid (G1.trans R2.gw)
          clear hbc G1 hlt hk
          go_wp2_with fail
          obtain ⟨wv, hwv⟩ : ∃ wv, wv = wr := ⟨_, rfl⟩
          subst hwv
          go_loopw [7, 8] (fun t i wr => ∃ k : Nat, k ≤ N.length ∧ i = .int .i64 k ∧ t = .bool ((N.take k).any (fun s => decide (255 < s.size))) ∧ wr = w2) (fun _ i _ => N.length - (intOf i).toNat)
          case atStart => exact ⟨0, by omega, rfl, by simp, rfl⟩
          case round =>
            obtain ⟨k, hk, rfl, rfl, rfl⟩ := hrel
            by_cases hlt : k < N.length
            · obtain ⟨s, hs⟩ : ∃ s, N[k]? = some s := ⟨_, List.getElem?_eq_getElem hlt⟩
              obtain ⟨g, off, rfl, hg, hcell⟩ := HP2.out.str k s hs
              have HQ := Lib.hid (any_succ hs)
              clear hs
              cases hany : (N.take k).any (fun s => decide (255 < s.size)) with
              | true =>
                have HQ2 := Lib.hid (show (N.take (k + 1)).any (fun s => decide (255 < s.size)) = true by rw [HQ.out, hany]; rfl)
                clear HQ hany
                go_wp2
                exact ⟨⟨k + 1, by omega, by go_num, by rw [HQ2.out], trivial⟩, by simp [intOf]; omega⟩
              | false =>
                by_cases h255 : 255 < s.size
                · have HQ2 := Lib.hid (show (N.take (k + 1)).any (fun s => decide (255 < s.size)) = true by rw [HQ.out, hany, decide_eq_true h255]; rfl)
                  have h255' : (255 : Int) < s.size := by omega
                  clear HQ hany
                  go_wp2
                  exact ⟨⟨k + 1, by omega, by go_num, by rw [HQ2.out], trivial⟩, by simp [intOf]; omega⟩
                · have HQ2 := Lib.hid (show (N.take (k + 1)).any (fun s => decide (255 < s.size)) = false by rw [HQ.out, hany, decide_eq_false h255]; rfl)
                  have h255' : decide ((255 : Int) < s.size) = false := decide_eq_false (by omega)
                  clear HQ hany
                  go_wp2
                  exact ⟨⟨k + 1, by omega, by go_num, by rw [HQ2.out], trivial⟩, by simp [intOf]; omega⟩
            · obtain rfl : k = N.length := by omega
              rw [List.take_length]
              have hx := HX.out
              have hz := HXZ.out
              by_cases h8 : 8 < N.length
              · have h8' : (8 : Int) < N.length := by omega
                rw [if_pos h8] at hx
                subst hx
                rw [if_neg (by decide)] at hz
                subst hz
                clear HX HXZ HEL RE hxh
                generalize N.any (fun s => decide (255 < s.size)) = lg at *
                go_wp2
                go_ret
                exact ⟨rfl, GW.out⟩
              · have h8' : decide ((8 : Int) < N.length) = false := decide_eq_false (by omega)
                rw [if_neg h8] at hx
                cases hany : N.any (fun s => decide (255 < s.size)) with
                | true =>
                  rw [hany, if_pos rfl] at hx
                  subst hx
                  rw [if_neg (by decide)] at hz
                  subst hz
                  clear HX HXZ HEL RE hxh hany
                  go_wp2
                  go_ret
                  exact ⟨rfl, GW.out⟩
                | false =>
                  rw [hany, if_neg (by decide)] at hx
                  subst hx
                  rw [if_pos rfl] at hz
                  obtain ⟨e1, e2⟩ := RE rfl
                  have hzl : ((z.length : Nat) : Int) = 4 + N.length + total N := by rw [← hz, HEL.out]; simp
                  have RC : Calls Tryd.prog 14 #[.slice A2 z.length c2] wr fun e W' => ∃ C ca D cd, e = .returned (.tuple #[.agg #[.slice C 0 ca, .slice D N.length cd], .int .i64 0]) ∧ POk W' C [] ca D N cd ∧ Gw wr W' := by
                    have := read_row R2
                    unfold ReadPost at this
                    rw [← hz, e2, e1] at this
                    rw [← hz]
                    simpa using this
                  clear HX HXZ HEL RE hxh hany e1 e2 hz
                  go_upto_region 21 with (go_at_call 14; with_reducible refine (RC).mono ?_; rintro e w3 ⟨C, ca, D, cd, rfl, PQ, G3⟩)
                  have GA := Gw.alloc w3 (.cells #[.slice C 0 ca, .slice D N.length cd] 25)
                  obtain ⟨y0, y1, _, _⟩ := two_cells (heap_alloc_new w3 (.cells #[.slice C 0 ca, .slice D N.length cd] 25))
                  have SC := same_any (PQ.gw GA) (HP2.out.gw (G3.trans GA))
                  rw [show decide (([] : List (Int × Int)) = [] ∧ N = N) = true from decide_eq_true ⟨rfl, rfl⟩] at SC
                  have GW3 := Lib.hid (GW.out.trans (G3.trans GA))
                  simp only [List.length_nil] at SC
                  clear PQ G3 GA RC R2
                  generalize w3.alloc (.cells #[.slice C 0 ca, .slice D N.length cd] 25) = w4 at *
                  generalize w3.heap.size = qb at *
                  have hN8 : N.length ≤ 8 := by omega
                  have hT9 : total N ≤ 10000 := by omega
                  go_wp2_with (go_at_call 15; with_reducible refine (SC).mono ?_; rintro e w5 ⟨rfl, G5⟩)
                  go_ret
                  exact ⟨rfl, GW3.out.trans (Grown.gw G5)⟩

theorem laidOut : laidOutB Tryd.prog = true := by kernel_rfl
set_option maxRecDepth 100000 in
theorem lifted (os : Os) (started : os.Started) (H : Type) (enc : TypeId × Value → H) :
    ReturnsInHanded {} Tryd.checked os 9 .any (fun w args => (Rows.progNamesSpec.pre enc Tryd.prog Tryd.f9 [] false w args ∧ laidMetH Tryd.prog laidTab w) ∧ sizedMet enc Tryd.prog Tryd.f9 (OpenSpec.ofChange Rows.progNamesSpec) false w args)
      (Rows.progNamesSpec.post enc Tryd.prog Tryd.f9 false true false false) := by
  refine returnsInHanded_of_change_and (C := Tryd.checked) (X := fun w _ => laidMetH Tryd.prog laidTab w) (fun _ _ _ hh h => h.of_heap hh) ownDoor started (by kernel_rfl) Tryd.func9
    (ChangeSpec.witness_shaped (enc := enc) (C := Tryd.checked) (os := os) (X := fun w _ => laidMetH Tryd.prog laidTab w) false (World.doorLaid Tryd.prog 400 os) #[.slice none 0 0] 8 rfl (World.shaped_of_RefB (by kernel_rfl) (by kernel_rfl)) (by kernel_rfl) (by kernel_rfl) (by kernel_rfl) (door_met os _)) ?_
  intro W base args ds gs before hval0 hW _ hsz hL _
  have hval : ∀ (j : Nat) t v, Tryd.f9.params[j]? = some t → args[j]? = some v → Value.okWide Tryd.prog W .any base t v := hval0
  have hW' := hW
  obtain ⟨p, q, hA0, hV, rfl, hfz, hnd⟩ := hW
  have hA : DataW.TrodAll enc Tryd.prog W 0 (fun _ => true) true Tryd.f9.params.toList args.toList ds p := hA0
  rw [Tryd.params9] at hA hval
  obtain ⟨v0, vs0, d0, ds0, p0, q0, hargs, rfl, rfl, h0, r0⟩ := trodAll_cons hA
  obtain ⟨rfl, rfl, rfl⟩ := trodAll_nil r0
  obtain rfl : args = #[v0] := by cases args; simp_all
  obtain ⟨rfl, rfl⟩ := trodVars_none hV
  have hz0 : ∀ n ∈ d0.weights Tryd.prog 23, n ≤ reachBytes := fun n hn => by
    have := List.all_eq_true.1 hsz n (DataW.weights_mem_each (j := 0) (t := 23) (d := d0) (by rfl) (by rfl) n hn)
    simpa using this
  have w0 : StrsIn W v0 := strs_open (hval 0 23 v0 rfl rfl) h0 hz0
  have hT := of_laid hL
  clear hA0 hval0
  simp only [List.append_nil] at hW'
  have hlt := hW'.lt
  refine (walk v0 W w0 hT).mono fun e W' ⟨he, hg⟩ => ?_
  subst he
  have hs : ∀ {q : MemPlace}, q.block < W.heap.size → W.sameAt W' q := fun hq => Below.same hg.below hq
  exact ⟨_, rfl, post_kept hW' hg (fun _ _ _ => (trodAll_cons_mk (shut_bool Tryd.underlying4 _) trodAll_mk0)) (fun sp hsp => (trodAll_cons_mk (WideElems.Trod_stays laidOut (by kernel_rfl) (of_decide_eq_true (by kernel_rfl)) h0 (fun x hx => hs (hlt x (by first | exact hx | (simp; first | exact .inl hx | exact .inr hx | exact hx | exact .inr (.inl hx) | exact .inr (.inr hx))))) (fun x hx => hsp x (by first | exact hx | (simp; first | exact .inl hx | exact .inr hx | exact hx | exact .inr (.inl hx) | exact .inr (.inr hx))))) trodAll_mk0)) (fun _ _ => rfl) (by first | rfl | simp)
    (ok_one (by kernel_rfl) rfl (okWide_bool_mk Tryd.underlying4 _))⟩

theorem over : Rows.ProgNamesSaid :=
  OpenClaim.holds_of_wide 9 Tryd.f9 rfl rfl rfl rfl rfl rfl rfl ⟨rfl, rfl, rfl, rfl, rfl⟩ rfl rfl rfl rfl rfl (by kernel_rfl) Tryd.func9 (by kernel_rfl)
    (of_decide_eq_true (by kernel_rfl)) (by unfold Func.isWrapper; first | (rw [if_pos (by decide +kernel)]; kernel_rfl) | (rw [if_neg (by decide +kernel)]; exact ⟨rfl, rfl⟩))
    (fun os started H enc _ => lifted os started H enc)

theorem proved : Rows.ProgNamesCardSaid :=
  Claim7.holds_tied_plain_at .later [] [.data, .data, .data] true _ false
    over (fun _ h => by cases h) (by kernel_rfl) (fun _ h => by cases h) progNames_row_tie rfl ⟨rfl, rfl⟩ (by kernel_rfl) rfl
    (fun f fn hf hfn => by
      obtain rfl : f = 9 := Option.some.inj ((show Tryd.prog.funcNamed "crossroads/crossroadslaw10.ProgNames" = some 9 by kernel_rfl).symm.trans hf) |>.symm
      obtain rfl : fn = Tryd.f9 := (Option.some.inj (Tryd.func9.symm.trans hfn)).symm
      exact ⟨by kernel_rfl, fun j t ht => by
        rw [Tryd.params9] at ht
        have hm : t ∈ ([23] : List TypeId) := by simpa using Array.mem_of_getElem? ht
        have hall : (([23] : List TypeId).all fun u => !Tryd.prog.wantsStandIn u) = true := by kernel_rfl
        exact (show Tryd.prog.wantsStandIn t = false by simpa using List.all_eq_true.1 hall t hm)⟩)
    (by kernel_rfl)
#print axioms proved
end Go.Proofs.YtcecmkelefhaaaaDoor.progNames
