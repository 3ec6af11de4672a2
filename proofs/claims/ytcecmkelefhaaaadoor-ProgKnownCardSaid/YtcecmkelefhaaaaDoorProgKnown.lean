/-
  The law ProgKnown: programs by hand, and what is none. No condition.
-/
import Derived.Test.YtcecmkelefhaaaaDoorProgY
namespace Go.Proofs.YtcecmkelefhaaaaDoor.progKnown
open Go.ChangeShapes Go.WideShapes Go.ChangeAt Go.RowKit Go.Joins
set_option linter.unusedVariables false

set_option maxRecDepth 100000 in
set_option maxHeartbeats 8000000 in
theorem walk  (w : World)  (hT : Tb w) :
    Calls Tryd.prog 6 #[] w fun e w' => e = .returned (.bool true) ∧ Gw w w' := by
  have AW := awake_any hT
  have hn : ∀ b w, (Op.unary .not (.bool b)).run Tryd.prog w = .ok (.bool (!b)) w := fun _ _ => rfl
  go_enter Tryd.func6, Tryd.ntmps6
  go_upto_region 4 with (go_at_call 10; with_reducible refine (AW).mono ?_; rintro e w1 ⟨rfl, G1⟩)
  obtain ⟨W2, hW2⟩ : ∃ W2, W2 = ((w1.alloc (.cells #[.int .i64 1, .int .i64 4660, .int .i64 34, .int .i64 10, .int .i64 26, .int .i64 0] 41)).alloc (.cells #[.string ⟨#[97, 98]⟩, .string ⟨#[]⟩] 9)).alloc (.cells #[.slice (some ⟨w1.heap.size, 0, none⟩) 3 3, .slice (some ⟨w1.heap.size + 1, 0, none⟩) 2 2] 25) := ⟨_, rfl⟩
  obtain ⟨p2, b2, g2⟩ := lay_p w1 W2 hW2
  rw [← hW2]
  have S2 : Hid (SK w W2 (some ⟨w1.heap.size, 0, none⟩) (some ⟨w1.heap.size + 1, 0, none⟩) (w1.heap.size + 1 + 1)) := ⟨p2, (box0 b2).1, (box1 b2).1, G1.trans g2, hT.gw (G1.trans g2)⟩
  clear hW2 p2 b2 g2 AW hT G1
  generalize w1.heap.size + 1 + 1 = pb at *
  generalize (some ⟨w1.heap.size + 1, 0, none⟩ : Option Addr) = B at *
  generalize (some ⟨w1.heap.size, 0, none⟩ : Option Addr) = A at *
  have c0 := S2.out.c0
  have c1 := S2.out.c1
  have BC := bytes_p S2.out
  have mk97 := make97
  have mk9 := make9
  have mk1 := make1
  go_upto_region 6 with (go_at_call 12; with_reducible refine (BC).mono ?_; rintro e w3 ⟨v3, rfl, R3⟩)
  have S3 := Lib.hid (S2.out.on R3.gw)
  clear S2 c0 c1 BC
  go_upto_region 7 with (go_at_call 12; with_reducible refine (bytes_97 w3).mono ?_; rintro e w4 ⟨v4, rfl, G4⟩)
  have S4 := Lib.hid (S3.out.on G4)
  have R4 := R3.keep G4
  clear R3 G4 S3 mk97
  go_upto_region 8 with (go_at_call 12; with_reducible refine (bytes_9 w4).mono ?_; rintro e w5 ⟨v5, rfl, G5⟩)
  have S5 := Lib.hid (S4.out.on G5)
  have R5 := R4.keep G5
  clear R4 G5 S4 mk9
  go_upto_region 9 with (go_at_call 12; with_reducible refine (bytes_1 w5).mono ?_; rintro e w6 ⟨v6, rfl, G6⟩)
  have S6 := Lib.hid (S5.out.on G6)
  have R6 := R5.keep G6
  clear R5 G6 S5 mk1
  go_upto_region 10 with fail
  have hb7 : Has (w6.alloc (.cells #[.string ⟨#[]⟩, .string ⟨#[88, 82]⟩, .string ⟨#[88, 83, 0, 0]⟩, .string ⟨#[88, 82, 0, 0, 0]⟩, .string ⟨#[88, 82, 1, 2, 97]⟩, .string ⟨#[88, 82, 0, 1, 1, 0]⟩] 9)) w6.heap.size 9 (bads.map Value.string).toArray := Has.new w6 _ _
  have GA := Gw.alloc w6 (.cells #[.string ⟨#[]⟩, .string ⟨#[88, 82]⟩, .string ⟨#[88, 83, 0, 0]⟩, .string ⟨#[88, 82, 0, 0, 0]⟩, .string ⟨#[88, 82, 1, 2, 97]⟩, .string ⟨#[88, 82, 0, 1, 1, 0]⟩] 9)
  have BD := Lib.hid (str_at hb7)
  have S7 := Lib.hid (S6.out.on GA)
  have R7 := Lib.hid (R6.keep GA)
  clear hb7 GA S6 R6
  generalize w6.alloc (.cells #[.string ⟨#[]⟩, .string ⟨#[88, 82]⟩, .string ⟨#[88, 83, 0, 0]⟩, .string ⟨#[88, 82, 0, 0, 0]⟩, .string ⟨#[88, 82, 1, 2, 97]⟩, .string ⟨#[88, 82, 0, 1, 1, 0]⟩] 9) = w7 at *
  generalize w6.heap.size = gb at *
  go_wp2_with fail
  go_loopw [12] (fun i wr => ∃ k : Nat, k ≤ 6 ∧ i = .int .i64 k ∧ Hid (SK w wr A B pb) ∧ Hid (Gw w7 wr)) (fun i _ => 6 - (intOf i).toNat)
  case atStart => exact ⟨0, by omega, rfl, S7.out, Gw.refl _⟩
  case round =>
    obtain ⟨k, hk, rfl, S8, G8⟩ := hrel
    by_cases hlt : k < 6
    · obtain ⟨s, hs⟩ : ∃ s, bads[k]? = some s := ⟨_, List.getElem?_eq_getElem (by simpa [bads] using hlt)⟩
      obtain ⟨g9, off9, e9, hg9, hcell⟩ := (BD.out.keep (fun j hj => G8.out.block j hj) G8.out.size) k s hs
      injection e9 with e9
      injection e9 with e9 e10 _
      subst e9 e10
      rw [Nat.zero_add] at hcell
      have hmem : s ∈ bads := List.mem_of_getElem? hs
      have hsz : s.size ≤ 1000 := (show ∀ s ∈ bads, s.size ≤ 1000 by decide) s hmem
      have her := errBads s hmem
      obtain ⟨W9, c9, hcv, q1, q2, q3, q4⟩ := to_bytes s hsz wr
      have RB := read_bad q3 (show s.data.toList.length = s.size by rw [Array.length_toList]; rfl) q1 q2 her (by decide)
      have G9 := Lib.hid q4
      clear hmem hs her q3 q4 hsz q1 q2
      go_wp2_with (go_at_call 14; with_reducible refine (RB).mono ?_; rintro e w10 ⟨C, ca, D, cd, rfl, G10⟩)
      have G11 := G9.out.trans (G10.trans (Gw.alloc w10 (.cells #[.slice C 0 ca, .slice D 0 cd] 25)))
      exact ⟨⟨k + 1, by omega, by go_num, S8.out.on G11, G8.out.trans G11⟩, by simp [intOf]; omega⟩
    · obtain rfl : k = 6 := by omega
      have R8 := Lib.hid (R7.out.keep G8.out)
      clear R7 S7 BD G8 hk hlt
      have c8 := S8.out.c0
      have c9 := S8.out.c1
      have RI1 := fun W : World => read_lit W [88, 82, 0, 1, 0, 0, 0] (n := 7) rfl (by omega) errI1 (by decide) #[.int .u8 88, .int .u8 82, .int .u8 0, .int .u8 1, .int .u8 0, .int .u8 0, .int .u8 0] rfl (7, 8)
      have HC := conv_same
      have RI2 := fun W : World => read_lit W [88, 82, 0, 1, 2, 0, 1] (n := 7) rfl (by omega) errI2 (by decide) #[.int .u8 88, .int .u8 82, .int .u8 0, .int .u8 1, .int .u8 2, .int .u8 0, .int .u8 1] rfl (7, 8)
      go_upto_region 17 with (go_at_call 14; with_reducible refine (RI1 _).mono ?_; rintro e w10 ⟨C, ca, D, cd, rfl, G10⟩)
      have GA1 := G10.trans (Gw.alloc w10 (.cells #[.slice C 0 ca, .slice D 0 cd] 25))
      clear RI1
      generalize w10.alloc (.cells #[.slice C 0 ca, .slice D 0 cd] 25) = w11 at *
      go_upto_region 18 with (go_at_call 14; with_reducible refine (RI2 _).mono ?_; rintro e w12 ⟨C2, ca2, D2, cd2, rfl, G12⟩)
      have GA2 := G12.trans (Gw.alloc w12 (.cells #[.slice C2 0 ca2, .slice D2 0 cd2] 25))
      clear RI2
      generalize w12.alloc (.cells #[.slice C2 0 ca2, .slice D2 0 cd2] 25) = w13 at *
      have GA3 := GA1.trans GA2
      have S13 := Lib.hid (S8.out.on GA3)
      have R13 := R8.out.keep GA3
      have q13 := R13.back
      rw [encLp] at q13
      have c13 := S13.out.c0
      have d13 := S13.out.c1
      have TP := text_p S13.out
      clear GA1 GA2 GA3 R13 R8 S8 G10 G12 c8 c9
      go_wp2_with (first | (go_at_call 19; with_reducible refine (TP).mono ?_; rintro e w14 ⟨rfl, G14⟩; have TB := Lib.hid (S13.out.tb.gw G14)) | (go_at_call 19; with_reducible refine (text_q TB.out).mono ?_; rintro e w15 ⟨rfl, G15⟩))
      go_ret
      exact ⟨rfl, S13.out.gw.trans (G14.trans G15)⟩

theorem laidOut : laidOutB Tryd.prog = true := by kernel_rfl
set_option maxRecDepth 100000 in
theorem lifted (os : Os) (started : os.Started) (H : Type) (enc : TypeId × Value → H) :
    ReturnsInHanded {} Tryd.checked os 6 .any (fun w args => (Rows.progKnownSpec.pre enc Tryd.prog Tryd.f6 [] false w args ∧ laidMetH Tryd.prog laidTab w) ∧ sizedMet enc Tryd.prog Tryd.f6 (OpenSpec.ofChange Rows.progKnownSpec) false w args)
      (Rows.progKnownSpec.post enc Tryd.prog Tryd.f6 false true false false) := by
  refine returnsInHanded_of_change_and (C := Tryd.checked) (X := fun w _ => laidMetH Tryd.prog laidTab w) (fun _ _ _ hh h => h.of_heap hh) ownDoor started (by kernel_rfl) Tryd.func6
    (ChangeSpec.witness_shaped (enc := enc) (C := Tryd.checked) (os := os) (X := fun w _ => laidMetH Tryd.prog laidTab w) false (World.doorLaid Tryd.prog 400 os) #[] 8 rfl (World.shaped_of_RefB (by kernel_rfl) (by kernel_rfl)) (by kernel_rfl) (by kernel_rfl) (by kernel_rfl) (door_met os _)) ?_
  intro W base args ds gs before hval0 hW _ hsz hL _
  have hval : ∀ (j : Nat) t v, Tryd.f6.params[j]? = some t → args[j]? = some v → Value.okWide Tryd.prog W .any base t v := hval0
  have hW' := hW
  obtain ⟨p, q, hA0, hV, rfl, hfz, hnd⟩ := hW
  have hA : DataW.TrodAll enc Tryd.prog W 0 (fun _ => true) true Tryd.f6.params.toList args.toList ds p := hA0
  rw [Tryd.params6] at hA hval
  obtain ⟨rfl, rfl, rfl⟩ := trodAll_none hA
  obtain ⟨rfl, rfl⟩ := trodVars_none hV
  have hT := of_laid hL
  clear hA0 hval0
  simp only [List.append_nil] at hW'
  have hlt := hW'.lt
  refine (walk  W  hT).mono fun e W' ⟨he, hg⟩ => ?_
  subst he
  have hs : ∀ {q : MemPlace}, q.block < W.heap.size → W.sameAt W' q := fun hq => Below.same hg.below hq
  exact ⟨_, rfl, post_kept hW' hg (fun _ _ _ => (trodAll_cons_mk (shut_bool Tryd.underlying4 _) trodAll_mk0)) (fun sp hsp => rfl) (fun _ _ => rfl) (by first | rfl | simp)
    (ok_one (by kernel_rfl) rfl (okWide_bool_mk Tryd.underlying4 _))⟩

theorem over : Rows.ProgKnownSaid :=
  OpenClaim.holds_of_wide 6 Tryd.f6 rfl rfl rfl rfl rfl rfl rfl ⟨rfl, rfl, rfl, rfl, rfl⟩ rfl rfl rfl rfl rfl (by kernel_rfl) Tryd.func6 (by kernel_rfl)
    (of_decide_eq_true (by kernel_rfl)) (by unfold Func.isWrapper; first | (rw [if_pos (by decide +kernel)]; kernel_rfl) | (rw [if_neg (by decide +kernel)]; exact ⟨rfl, rfl⟩))
    (fun os started H enc _ => lifted os started H enc)

theorem proved : Rows.ProgKnownCardSaid :=
  Claim7.holds_tied_plain_at .later [] [.data, .data, .data] true _ false
    over (fun _ h => by cases h) (by kernel_rfl) (fun _ h => by cases h) progKnown_row_tie rfl ⟨rfl, rfl⟩ (by kernel_rfl) rfl
    (fun f fn hf hfn => by
      obtain rfl : f = 6 := Option.some.inj ((show Tryd.prog.funcNamed "crossroads/crossroadslaw10.ProgKnown" = some 6 by kernel_rfl).symm.trans hf) |>.symm
      obtain rfl : fn = Tryd.f6 := (Option.some.inj (Tryd.func6.symm.trans hfn)).symm
      exact ⟨by kernel_rfl, fun j t ht => by
        rw [Tryd.params6] at ht
        have hm : t ∈ ([] : List TypeId) := by simpa using Array.mem_of_getElem? ht
        have hall : (([] : List TypeId).all fun u => !Tryd.prog.wantsStandIn u) = true := by kernel_rfl
        exact (show Tryd.prog.wantsStandIn t = false by simpa using List.all_eq_true.1 hall t hm)⟩)
    (by kernel_rfl)
#print axioms proved
end Go.Proofs.YtcecmkelefhaaaaDoor.progKnown
