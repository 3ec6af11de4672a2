/-
  The law ClauseKnown: clauses by hand: the least int, nought, beyond what there is. No condition.
-/
import Derived.Test.YtdgmjdppiolkkaaClauW
import Derived.ProofKit
namespace Go.Proofs.Ytdgmjdppiolkkaa.clauseKnown
open Go.ChangeShapes Go.WideShapes Go.ChangeAt Go.RowKit
set_option linter.unusedVariables false

theorem revalB {A : Option Addr} {f : List (List Int)} {fcap : Nat} {B : Option Addr} {m : List Bool} {cap : Nat} {w : World} (hf : FormAt w A f) (hn : f.length ≤ 9223372036854775807) (hm : SeqAt Value.bool w B m) (hl : m.length ≤ 9223372036854775807) {r : Bool} (hr : evalM m f = r) :
    Calls Try.prog 14 #[.slice A f.length fcap, .slice B m.length cap] w fun e w' => e = .returned (.bool r) ∧ w = w' := by subst hr; exact reval_any A f fcap B m cap w hf hn hm hl
theorem mayF {n : Int} {A : Option Addr} {f : List (List Int)} {fcap : Nat} {w : World} (hn : Wf n) (hf : FormAt w A f) (hl : f.length ≤ 9223372036854775807) {r : Bool} (hr : mayM n f = r) :
    Calls Try.prog 12 #[.int .i64 n, .slice A f.length fcap] w fun e w' => e = .returned (.bool r) ∧ Below w.heap.size w w' := (mayB hn hf hl hr).mono fun _ _ ⟨he, hw⟩ => ⟨he, by rw [← hw]; exact Below.refl _ _⟩
theorem pureF {n : Int} {A : Option Addr} {f : List (List Int)} {fcap : Nat} {w : World} (hn : Wf n) (hf : FormAt w A f) (hl : f.length ≤ 9223372036854775807) {l : List Int} (h : (mayM n f = false ∧ l = []) ∨ (mayM n f = true ∧ ∃ N : Nat, n = N ∧ l = pureTo f N)) :
    Calls Try.prog 16 #[.int .i64 n, .slice A f.length fcap] w (PurePost l w) := by
  rcases h with ⟨h, rfl⟩ | ⟨h, N, rfl, rfl⟩
  · exact pure_no n A f fcap w hn hf hl h
  · exact pure_yes N A f fcap w hf hl h
theorem three_form {w : World} {B C D : Option Addr} {c d e : List Int} {cap dap eap : Nat} (t : TypeId) {g : Nat} (hg : w.heap.size = g) (hs : SeqAt (Value.int .i64) w B c) (hl : c.length ≤ 9223372036854775807) (hw : ∀ l ∈ c, Wf l) (ks : SeqAt (Value.int .i64) w C d) (kl : d.length ≤ 9223372036854775807) (kw : ∀ l ∈ d, Wf l) (ls : SeqAt (Value.int .i64) w D e) (ll : e.length ≤ 9223372036854775807) (lw : ∀ l ∈ e, Wf l) :
    FormAt (w.alloc (.cells #[.slice B c.length cap, .slice C d.length dap, .slice D e.length eap] t)) (some ⟨g, 0, none⟩) [c, d, e] := by
  subst hg
  have hb : Below w.heap.size w (w.alloc (.cells #[.slice B c.length cap, .slice C d.length dap, .slice D e.length eap] t)) := (Below.refl _ _).alloc (Nat.le_refl _) _
  refine ⟨fun i y he => ?_, fun a ha => by injection ha with ha; subst ha; simp, fun y he => by simp at he; rcases he with rfl | rfl | rfl <;> assumption⟩
  match i, he with
  | 0, he => simp at he; subst he; exact ⟨_, B, cap, rfl, by rw [show (⟨w.heap.size, 0, none⟩ : Addr).add 0 = ⟨w.heap.size, 0, none⟩ from rfl, World.cell?_alloc_at _ _ _ _ rfl]; rfl, hs.keep hb, hl⟩
  | 1, he => simp at he; subst he; exact ⟨_, C, dap, rfl, by rw [show (⟨w.heap.size, 0, none⟩ : Addr).add 1 = ⟨w.heap.size, 1, none⟩ from rfl, World.cell?_alloc_at _ _ _ _ rfl]; rfl, ks.keep hb, kl⟩
  | 2, he => simp at he; subst he; exact ⟨_, D, eap, rfl, by rw [show (⟨w.heap.size, 0, none⟩ : Addr).add 2 = ⟨w.heap.size, 2, none⟩ from rfl, World.cell?_alloc_at _ _ _ _ rfl]; rfl, ls.keep hb, ll⟩
set_option maxHeartbeats 6400000 in
set_option maxRecDepth 100000 in
theorem walk (w : World) : Calls Try.prog 5 #[] w fun e w' => e = .returned (.bool true) ∧ Below w.heap.size w w' := by
  go_enter Try.func5, Try.ntmps5
  go_wp2_with fail
  refine (awake_any _).mono ?_
  rintro e w1 ⟨rfl, hb⟩
  have HB := Lib.hid hb
  clear hb
  go_wp2_with fail
  refine (normB (A := some ⟨w1.heap.size, 0, none⟩) (c := [5, 0, -2, -9223372036854775808, 5, 2]) (lits_at w1 3 [5, 0, -2, -9223372036854775808, 5, 2]) (wfs (by decide)) (by decide) (p := ([], true)) (by decide +kernel)).mono ?_
  rintro e w2 ⟨A1, cap1, rfl, hs, hb⟩
  have HS1 := Lib.hid hs
  clear hs
  have HB' := Lib.hid (Below.on (Below.plus HB.out _) hb)
  clear hb HB
  have HB := HB'
  clear HB'
  go_wp2_with fail
  refine (normB (A := some ⟨w2.heap.size, 0, none⟩) (c := [-7, 3, -9223372036854775808, 0]) (lits_at w2 3 [-7, 3, -9223372036854775808, 0]) (wfs (by decide)) (by decide) (p := ([3, -7], false)) (by decide +kernel)).mono ?_
  rintro e w3 ⟨A2, cap2, rfl, hs, hb⟩
  have HS2 := Lib.hid hs
  clear hs
  have HB' := Lib.hid (Below.on (Below.plus HB.out _) hb)
  clear hb HB
  have HB := HB'
  clear HB'
  go_wp2_with fail
  refine (sameB (B := some ⟨w3.heap.size, 0, none⟩) (b := [3, -7]) (HS2.out.keep (below_alloc w3 _)) (lits_at w3 3 [3, -7]) (by decide) (by decide) (r := true) (by decide)).mono ?_
  rintro e w4 ⟨rfl, hb⟩
  have HB' := Lib.hid (Below.on (Below.plus HB.out _) hb)
  clear hb HB
  have HB := HB'
  clear HB'
  go_wp2_with fail
  refine (mayF (n := 0) (A := none) (f := []) (by unfold Wf; omega) (form_none _) (by decide) (r := true) (by decide +kernel)).mono ?_
  rintro e w5 ⟨rfl, hb⟩
  have HB' := Lib.hid (Below.on HB.out hb)
  clear hb HB
  have HB := HB'
  clear HB'
  go_wp2_with fail
  refine (mayF (n := 0) (A := some ⟨w5.heap.size + 1, 0, none⟩) (f := [[]]) (by unfold Wf; omega) (one_form (cap := 0) 27 (by simp) (lits_at w5 3 []) (by decide) (wfs (by decide))) (by decide) (r := true) (by decide +kernel)).mono ?_
  rintro e w6 ⟨rfl, hb⟩
  have HB' := Lib.hid (Below.on (Below.plus (Below.plus HB.out _) _) hb)
  clear hb HB
  have HB := HB'
  clear HB'
  go_wp2_with fail
  refine (mayF (n := -1) (A := none) (f := []) (by unfold Wf; omega) (form_none _) (by decide) (r := false) (by decide +kernel)).mono ?_
  rintro e w7 ⟨rfl, hb⟩
  have HB' := Lib.hid (Below.on HB.out hb)
  clear hb HB
  have HB := HB'
  clear HB'
  go_wp2_with fail
  refine (mayF (n := 2) (A := some ⟨w7.heap.size + 1, 0, none⟩) (f := [[3]]) (by unfold Wf; omega) (one_form (cap := 1) 27 (by simp) (lits_at w7 3 [3]) (by decide) (wfs (by decide))) (by decide) (r := false) (by decide +kernel)).mono ?_
  rintro e w8 ⟨rfl, hb⟩
  have HB' := Lib.hid (Below.on (Below.plus (Below.plus HB.out _) _) hb)
  clear hb HB
  have HB := HB'
  clear HB'
  go_wp2_with fail
  refine (mayF (n := 2) (A := some ⟨w8.heap.size + 1, 0, none⟩) (f := [[0]]) (by unfold Wf; omega) (one_form (cap := 1) 27 (by simp) (lits_at w8 3 [0]) (by decide) (wfs (by decide))) (by decide) (r := false) (by decide +kernel)).mono ?_
  rintro e w9 ⟨rfl, hb⟩
  have HB' := Lib.hid (Below.on (Below.plus (Below.plus HB.out _) _) hb)
  clear hb HB
  have HB := HB'
  clear HB'
  go_wp2_with fail
  refine (mayF (n := 2) (A := some ⟨w9.heap.size + 1, 0, none⟩) (f := [[-9223372036854775808]]) (by unfold Wf; omega) (one_form (cap := 1) 27 (by simp) (lits_at w9 3 [-9223372036854775808]) (by decide) (wfs (by decide))) (by decide) (r := false) (by decide +kernel)).mono ?_
  rintro e w10 ⟨rfl, hb⟩
  have HB' := Lib.hid (Below.on (Below.plus (Below.plus HB.out _) _) hb)
  clear hb HB
  have HB := HB'
  clear HB'
  go_wp2_with fail
  refine (evalB (A := none) (f := []) (form_none _) (by decide) (m := []) (SeqAt.nil _ _) (by decide) (r := true) (by decide +kernel)).mono ?_
  rintro e w11 ⟨rfl, hb⟩
  have HB' := Lib.hid (Below.on HB.out hb)
  clear hb HB
  have HB := HB'
  clear HB'
  go_wp2_with fail
  refine (evalB (A := some ⟨w11.heap.size + 1, 0, none⟩) (f := [[]]) (one_form (cap := 0) 27 (by simp) (lits_at w11 3 []) (by decide) (wfs (by decide))) (by decide) (m := []) (SeqAt.nil _ _) (by decide) (r := false) (by decide +kernel)).mono ?_
  rintro e w12 ⟨rfl, hb⟩
  have HB' := Lib.hid (Below.on (Below.plus (Below.plus HB.out _) _) hb)
  clear hb HB
  have HB := HB'
  clear HB'
  go_wp2_with fail
  refine (evalB (A := some ⟨w12.heap.size + 1, 0, none⟩) (f := [[-9]]) (one_form (cap := 1) 27 (by simp) (lits_at w12 3 [-9]) (by decide) (wfs (by decide))) (by decide) (m := []) (SeqAt.nil _ _) (by decide) (r := true) (by decide +kernel)).mono ?_
  rintro e w13 ⟨rfl, hb⟩
  have HB' := Lib.hid (Below.on (Below.plus (Below.plus HB.out _) _) hb)
  clear hb HB
  have HB := HB'
  clear HB'
  go_wp2_with fail
  refine (evalB (A := some ⟨w13.heap.size + 1, 0, none⟩) (f := [[9, 0, -9223372036854775808]]) (one_form (cap := 3) 27 (by simp) (lits_at w13 3 [9, 0, -9223372036854775808]) (by decide) (wfs (by decide))) (by decide) (m := []) (SeqAt.nil _ _) (by decide) (r := false) (by decide +kernel)).mono ?_
  rintro e w14 ⟨rfl, hb⟩
  have HB' := Lib.hid (Below.on (Below.plus (Below.plus HB.out _) _) hb)
  clear hb HB
  have HB := HB'
  clear HB'
  go_wp2_with fail
  have s1 : SeqAt (Value.int .i64) (((w14.alloc (.cells #[.int .i64 1, .int .i64 (-2)] 3)).alloc (.cells #[.int .i64 1, .int .i64 (-2), .int .i64 3] 3)).alloc (.cells #[.int .i64 (-3)] 3)) (some ⟨w14.heap.size, 0, none⟩) [1, -2] := ((lits_at w14 3 [1, -2]).keep (below_alloc _ (.cells #[.int .i64 1, .int .i64 (-2), .int .i64 3] 3))).keep (below_alloc _ (.cells #[.int .i64 (-3)] 3))
  have s2 : SeqAt (Value.int .i64) (((w14.alloc (.cells #[.int .i64 1, .int .i64 (-2)] 3)).alloc (.cells #[.int .i64 1, .int .i64 (-2), .int .i64 3] 3)).alloc (.cells #[.int .i64 (-3)] 3)) (some ⟨w14.heap.size + 1, 0, none⟩) [1, -2, 3] := (vals_g _ (w := w14.alloc (.cells #[.int .i64 1, .int .i64 (-2)] 3)) 3 [1, -2, 3] (by simp)).keep (below_alloc _ (.cells #[.int .i64 (-3)] 3))
  have s3 : SeqAt (Value.int .i64) (((w14.alloc (.cells #[.int .i64 1, .int .i64 (-2)] 3)).alloc (.cells #[.int .i64 1, .int .i64 (-2), .int .i64 3] 3)).alloc (.cells #[.int .i64 (-3)] 3)) (some ⟨w14.heap.size + 1 + 1, 0, none⟩) [-3] := vals_g _ (w := (w14.alloc (.cells #[.int .i64 1, .int .i64 (-2)] 3)).alloc (.cells #[.int .i64 1, .int .i64 (-2), .int .i64 3] 3)) 3 [-3] (by simp)
  refine (pureF (n := 3) (A := some ⟨w14.heap.size + 1 + 1 + 1, 0, none⟩) (f := [[1, -2], [1, -2, 3], [-3]]) (by unfold Wf; omega) (three_form (cap := 2) (dap := 3) (eap := 1) 27 (by simp) s1 (by decide) (wfs (by decide)) s2 (by decide) (wfs (by decide)) s3 (by decide) (wfs (by decide))) (by decide) (l := [1, -2]) (.inr ⟨by decide +kernel, 3, rfl, by decide +kernel⟩)).mono ?_
  rintro e w15 ⟨P, pcap, rfl, hp, hb⟩
  have HP := Lib.hid hp
  clear hp s1 s2 s3
  have HB' := Lib.hid (Below.on (Below.plus (Below.plus (Below.plus (Below.plus HB.out _) _) _) _) hb)
  clear hb HB
  have HB := HB'
  clear HB'
  go_wp2_with fail
  refine (sameB (B := some ⟨w15.heap.size, 0, none⟩) (b := [1, -2]) (HP.out.keep (below_alloc w15 _)) (lits_at w15 3 [1, -2]) (by decide) (by decide) (r := true) (by decide)).mono ?_
  rintro e w16 ⟨rfl, hb⟩
  have HB' := Lib.hid (Below.on (Below.plus HB.out _) hb)
  clear hb HB
  have HB := HB'
  clear HB'
  go_wp2_with fail
  refine (pureF (n := 1) (A := some ⟨w16.heap.size + 1, 0, none⟩) (f := [[2]]) (by unfold Wf; omega) (one_form (cap := 1) 27 (by simp) (lits_at w16 3 [2]) (by decide) (wfs (by decide))) (by decide) (l := []) (.inl ⟨by decide +kernel, rfl⟩)).mono ?_
  rintro e w17 ⟨P2, pcap2, rfl, hp, hb⟩
  clear hp
  have HB' := Lib.hid (Below.on (Below.plus (Below.plus HB.out _) _) hb)
  clear hb HB
  have HB := HB'
  clear HB'
  go_wp2_with fail
  go_ret
  exact ⟨rfl, HB.out⟩

theorem own : ownKnob Try.prog.godebug = none := by kernel_rfl
theorem cellsInt : Try.prog.cellsOf 3 = 1 := by kernel_rfl
set_option maxRecDepth 100000 in
theorem lifted (os : Os) (started : os.Started) (H : Type) (enc : TypeId × Value → H) :
    ReturnsInHanded {} Try.checked os 5 .any (Rows.clauseKnownSpec.pre6 enc Try.prog Try.f5 Rows.clauseKnownRow.domain false) (Rows.clauseKnownSpec.post enc Try.prog Try.f5 false true false false) := by
  refine returnsInHanded_of_change (C := Try.checked) own started (by kernel_rfl) Try.func5
    (ChangeSpec.witness6 (enc := enc) (C := Try.checked) false ⟨#[], #[], []⟩ 8 (by kernel_rfl) (by kernel_rfl) (by kernel_rfl) (by kernel_rfl)) ?_
  intro W base args ds gs before hval0 hW hcnd _
  have hval : ∀ (j : Nat) t v, Try.f5.params[j]? = some t → args[j]? = some v → Value.okWide Try.prog W .any base t v := hval0
  have hW' := hW
  obtain ⟨p, q, hA0, hV, rfl, hfz, hnd⟩ := hW
  have hA : DataW.TrodAll enc Try.prog W 0 (fun _ => true) true Try.f5.params.toList args.toList ds p := hA0
  rw [Try.params5] at hA hval
  obtain ⟨rfl, rfl, rfl⟩ := trodAll_none hA
  obtain ⟨rfl, rfl⟩ := trodVars_none hV
  clear hA0 hval0
  simp only [List.append_nil] at hW'
  have hlt := hW'.lt
  refine (walk  W ).mono fun e W' ⟨he, hg⟩ => ?_
  subst he
  exact ⟨_, rfl, post_kept hW' hg (fun _ _ _ => (trodAll_cons_mk (shut_bool Try.underlying4 _) trodAll_mk0)) (fun sp hsp => rfl) (fun _ _ => rfl) (by first | rfl | simp)
    (ok_one (by kernel_rfl) rfl (okWide_bool_mk Try.underlying4 _))⟩

theorem over : Rows.clauseKnownRow.holds Try.pinned (OpenSpec.ofChange Rows.clauseKnownSpec) :=
  OpenClaim.holds_of_wide 5 Try.f5 rfl rfl rfl rfl rfl rfl rfl ⟨rfl, rfl, rfl, rfl, rfl⟩ rfl rfl rfl rfl rfl (by kernel_rfl) Try.func5 (by kernel_rfl)
    (of_decide_eq_true (by kernel_rfl)) (by unfold Func.isWrapper; first | (rw [if_pos (by decide +kernel)]; kernel_rfl) | (rw [if_neg (by decide +kernel)]; exact ⟨rfl, rfl⟩))
    (fun os started H enc _ => lifted os started H enc)

theorem proved : Rows.ClauseKnownSaid :=
  over
#print axioms proved
end Go.Proofs.Ytdgmjdppiolkkaa.clauseKnown
