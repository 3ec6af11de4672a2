/-
  Parts of the proof, joined: DpllLk2.
-/
import Derived.Test.YtpmdnbdmocdngaaGreatMh19

namespace Go.Proofs.YtpmdnbdmocdngaaGreat
open Go.ChangeShapes Go.WideShapes Go.ChangeAt Go.RowKit
set_option linter.unusedVariables false

/-- One more watch. -/
def Sd.watched (d : Sd) (q : Nat) (x : Nat × Nat) : Sd := { d with F := fun r => if r = q then d.F q ++ [x] else d.F r }
section
variable {B : Nat} {τ : Nat → Nat} {w : World} {p n k : Nat} {d : Sd} {c : Cl}
set_option maxHeartbeats 6400000 in
set_option linter.unusedSimpArgs false in
theorem look_any (h : Sr B τ w p n d) (hn : n ≤ 65536) (hk : d.cls[k]? = some c) (hkb : k < 2147483648) {q0 q1 : Nat} (h0 : c.ls[0]? = some q0) (h1 : c.ls[1]? = some q1) (hq0 : q0 < 2 * n) (hq1 : q1 < 2 * n) (hg0 : q0 ≠ d.gq) (hg1 : q1 ≠ d.gq) (hFb : ∀ q, (d.F q).length ≤ 4294967295) :
    Calls Tryz.prog 125 #[ptr p, .int .i32 (k : Int)] w fun e w' => e = .returned (.tuple #[]) ∧ ∃ τ', Sr B τ' w' p n ((d.watched q0 (k, q1)).watched q1 (k, q0)) ∧ Stp τ τ' w w' := by
  have hl1 := (List.getElem?_eq_some_iff.1 h1).1
  have hlp : 0 < c.ls.length := by omega
  obtain ⟨ga, capa, gl, capl, ca⟩ := h.claim hk hlp
  have fa := ca.head
  have ale := ca.le
  have amx := ca.mx
  have fl := ca.lit
  have za := ca.alt
  have zq := h.plt
  have lle := ca.lle
  have lmx := ca.lmx
  have k0 : (0 : Int) ≤ (k : Int) := by omega
  have k1 : (k : Int) < (d.cls.length : Int) := by have := ca.hk; omega
  have ll1 : (1 : Int) < (c.ls.length : Int) := by omega
  have hne0 : ¬ c.ls = [] := fun e => by rw [e] at hlp; exact Nat.lt_irrefl _ hlp
  have R := Lib.hid h
  have C := Lib.hid ca
  have T := Lib.hid (Stp.refl τ w)
  have Hq0 := Lib.hid (And.intro h0 hq0)
  have Hq1 := Lib.hid (And.intro h1 hq1)
  obtain ⟨m, hm⟩ : ∃ m, d.cls.length = m := ⟨_, rfl⟩
  have HKa := Lib.hid (And.intro hk hm)
  have HFba := Lib.hid (show ∀ q, (d.F q).length ≤ 4294967296 from fun q => by have := hFb q; omega)
  obtain ⟨d1, hd1⟩ : ∃ d1, d1 = d.watched q0 (k, q1) := ⟨_, rfl⟩
  have HD1 := Lib.hid hd1
  have HG0 := Lib.hid hg0
  have HG1 := Lib.hid (show q1 ≠ d1.gq by rw [hd1]; exact hg1)
  have HKb := Lib.hid (show d1.cls[k]? = some c ∧ d1.cls.length = m by rw [hd1]; exact ⟨hk, hm⟩)
  have HFbb := Lib.hid (show ∀ q, (d1.F q).length ≤ 4294967296 by
    rw [hd1]; intro q
    show (if q = q0 then d.F q0 ++ [(k, q1)] else d.F q).length ≤ _
    split
    · rw [List.length_append]; have := hFb q0; simp; omega
    · have := hFb q; omega)
  have HEND := Lib.hid (show ∀ (W : World) (τ' : Nat → Nat), Sr B τ' W p n (d1.watched q1 (k, q0)) → Stp τ τ' w W → ∃ τ', Sr B τ' W p n ((d.watched q0 (k, q1)).watched q1 (k, q0)) ∧ Stp τ τ' w W from fun W τ' r t => ⟨τ', by rw [← hd1]; exact r, t⟩)
  rw [hm] at fa k1 ale
  have C : Hid (Cla τ w p m k c ga capa gl capl) := by rw [← hm]; exact C.out
  clear h hk h0 h1 hq0 hq1 hg0 hg1 hFb ca hm hd1
  go_enter Tryz.func125, Tryz.ntmps125
  go_wp2_with fail
  have B1a : Below w.heap.size w w.drew := Below.draws (Below.refl _ _) 1
  have R4a := Lib.hid (R.out.below B1a)
  have C4a := Lib.hid (C.out.step (R := fun _ => False) R.out.plt (Step.of_below _ τ B1a) id id id)
  have T4a := Lib.hid (T.out.trans (Stp.of_below τ B1a))
  obtain ⟨gwa, AWa, cwa, hWa⟩ := R4a.out.wat Hq0.out.2
  have w1a := hWa.head
  have w2a : w.drew.cell? ⟨gwa, q0, none⟩ = some (.slice AWa (d.F q0).length cwa) := hWa.at_
  have w3a := hWa.wfree
  have w4a := hWa.wlt
  have yaa : w.drew.cell? ⟨gl, 0, none⟩ = some (.int .i32 (q0 : Int)) := C4a.out.cell 0 q0 Hq0.out.1
  have yba : w.drew.cell? ⟨gl, 1, none⟩ = some (.int .i32 (q1 : Int)) := C4a.out.cell 1 q1 Hq1.out.1
  have zla := C4a.out.llt
  have zpa := R4a.out.plt
  have ngwa : gl ≠ gwa := fun e => by have h1 := C4a.out.lrole; have h2 := hWa.wrole; rw [e, h2] at h1; omega
  have FINa := Lib.hid (look_fin R4a.out hWa Hq0.out.2 HG0.out C4a.out HKa.out.1 hlp HKa.out.2 (k, q1))
  have HFLa := HFba.out q0
  have q0a : (0 : Int) ≤ (q0 : Int) := by omega
  have q1a : (q0 : Int) < ((2 * n : Nat) : Int) := by have := Hq0.out.2; omega
  obtain ⟨i0a, hi0, hz0, hz1, hz2⟩ := info_parts infoWat
  have HIa := Lib.hid (show _ ∧ _ ∧ _ ∧ _ from ⟨hi0, hz0, hz1, hz2⟩)
  have HOa := Lib.hid hWa.own
  clear hWa hi0 hz0 hz1 hz2 B1a R C T
  obtain ⟨Na, hN⟩ : ∃ N, 2 * n = N := ⟨_, rfl⟩
  rw [hN] at w1a q1a
  obtain ⟨Ma, hM⟩ : ∃ M, (d.F q0).length = M := ⟨_, rfl⟩
  rw [hM] at w2a HFLa
  have HNa := Lib.hid hN
  have HMa := Lib.hid hM
  clear hN hM
  have KBa := Lib.hid (show ∀ X, Below w.drew.heap.size w.drew X → X.cell? ⟨p, 1, none⟩ = some (.slice (some ⟨gwa, 0, none⟩) Na Na) ∧ X.cell? ⟨gl, 0, none⟩ = some (.int .i32 (q0 : Int)) ∧ X.cell? ⟨gl, 1, none⟩ = some (.int .i32 (q1 : Int)) ∧ X.cell? ⟨gwa, q0, none⟩ = some (.slice AWa Ma cwa) from fun X b => ⟨(b.cell (lt_of_cell w1a)).trans w1a, (b.cell (lt_of_cell yaa)).trans yaa, (b.cell (lt_of_cell yba)).trans yba, (b.cell (lt_of_cell w2a)).trans w2a⟩)
  go_wp2_with fail
  refine region_last (S := fun w' => w'.cell? ⟨p, 1, none⟩ = some (.slice (some ⟨gwa, 0, none⟩) Na Na) ∧ w'.cell? ⟨gl, 0, none⟩ = some (.int .i32 (q0 : Int)) ∧ w'.cell? ⟨gl, 1, none⟩ = some (.int .i32 (q1 : Int)) ∧ w'.cell? ⟨gwa, q0, none⟩ = some (.slice AWa Ma cwa)) (by kernel_rfl) (by rfl) (by rfl) (by kernel_rfl) ⟨w1a, yaa, yba, w2a⟩ (fun hHeld => ?_)
  generalize w.drew = w0a at *
  have KAa := Lib.hid (KBa.out (w0a.alloc (.cells #[.int .i32 (k : Int), .int .i32 (q1 : Int)] 211)) ((Below.refl _ _).alloc (Nat.le_refl _) _))
  simp only [List.pop_toArray, List.dropLast_cons_cons, List.dropLast_singleton]
  refine wpAnyH_take (i := 0) (v := ?v23) rfl (by kernel_rfl) (by kernel_rfl) (by kernel_rfl) (fun _ _ _ h => h) (Or.inl ⟨by rfl, ?hy23⟩) (by assumption) ?rest23
  case hy23 => (intro w hSw; (try dsimp only at hSw); go_simp; try with_reducible rfl)
  (try simp only [Act.put, List.setIfInBounds_toArray, List.set_cons_zero, List.set_cons_succ])
  refine wpAnyH_take (i := 1) (v := ?v24) rfl (by kernel_rfl) (by kernel_rfl) (by kernel_rfl) (fun _ _ _ h => h) (Or.inl ⟨by rfl, ?hy24⟩) (by assumption) ?rest24
  case hy24 => (intro w hSw; (try dsimp only at hSw); go_simp; try with_reducible rfl)
  (try simp only [Act.put, List.setIfInBounds_toArray, List.set_cons_zero, List.set_cons_succ])
  refine wpAnyH_take (i := 2) (v := ?v25) rfl (by kernel_rfl) (by kernel_rfl) (by kernel_rfl) (fun _ _ _ h => h) (Or.inl ⟨by rfl, ?hy25⟩) (by assumption) ?rest25
  case hy25 => (intro w hSw; (try dsimp only at hSw); go_simp; try with_reducible rfl)
  (try simp only [Act.put, List.setIfInBounds_toArray, List.set_cons_zero, List.set_cons_succ])
  refine wpAnyH_take (i := 3) (v := ?v26) rfl (by kernel_rfl) (by kernel_rfl) (by kernel_rfl) (fun _ _ _ h => h) (Or.inl ⟨by rfl, ?hy26⟩) (by assumption) ?rest26
  case hy26 => (intro w hSw; (try dsimp only at hSw); go_simp; try with_reducible rfl)
  (try simp only [Act.put, List.setIfInBounds_toArray, List.set_cons_zero, List.set_cons_succ])
  refine wpAnyH_take (i := 4) (v := ?v27) rfl (by kernel_rfl) (by kernel_rfl) (by kernel_rfl) (fun _ _ _ h => h) (Or.inl ⟨by rfl, ?hy27⟩) (by assumption) ?rest27
  case hy27 => (intro w hSw; (try dsimp only at hSw); go_simp; try with_reducible rfl)
  (try simp only [Act.put, List.setIfInBounds_toArray, List.set_cons_zero, List.set_cons_succ])
  refine wpAnyH_take (i := 5) (v := ?v28) rfl (by kernel_rfl) (by kernel_rfl) (by kernel_rfl) (fun _ _ _ h => h) (Or.inl ⟨by rfl, ?hy28⟩) (by assumption) ?rest28
  case hy28 => (intro w hSw; (try dsimp only at hSw); go_simp; try with_reducible rfl)
  (try simp only [Act.put, List.setIfInBounds_toArray, List.set_cons_zero, List.set_cons_succ])
  refine wpAnyH_take (i := 6) (v := ?v29) rfl (by kernel_rfl) (by kernel_rfl) (by kernel_rfl) (fun _ _ _ h => h) (Or.inl ⟨by rfl, ?hy29⟩) (by assumption) ?rest29
  case hy29 => (intro w hSw; (try dsimp only at hSw); go_simp; try with_reducible rfl)
  (try simp only [Act.put, List.setIfInBounds_toArray, List.set_cons_zero, List.set_cons_succ])
  refine wpAnyH_take (i := 7) (v := ?v30) rfl (by kernel_rfl) (by kernel_rfl) (by kernel_rfl) (fun _ _ _ h => h) (Or.inl ⟨by rfl, ?hy30⟩) (by assumption) ?rest30
  case hy30 => (intro w hSw; (try dsimp only at hSw); go_simp; try with_reducible rfl)
  (try simp only [Act.put, List.setIfInBounds_toArray, List.set_cons_zero, List.set_cons_succ])
  refine wpAnyH_take (i := 8) (v := ?v31) rfl (by kernel_rfl) (by kernel_rfl) (by kernel_rfl) (fun _ _ _ h => h) (Or.inl ⟨by rfl, ?hy31⟩) (by assumption) ?rest31
  case hy31 => (intro w hSw; (try dsimp only at hSw); go_simp; try with_reducible rfl)
  (try simp only [Act.put, List.setIfInBounds_toArray, List.set_cons_zero, List.set_cons_succ])
  refine wpAnyH_take (i := 9) (v := ?v32) rfl (by kernel_rfl) (by kernel_rfl) (by kernel_rfl) (fun _ _ _ h => h) (Or.inl ⟨by rfl, ?hy32⟩) (by assumption) ?rest32
  case hy32 => (intro w hSw; (try dsimp only at hSw); go_simp; try with_reducible rfl)
  (try simp only [Act.put, List.setIfInBounds_toArray, List.set_cons_zero, List.set_cons_succ])
  refine wpAnyH_take (i := 10) (v := ?v33) rfl (by kernel_rfl) (by kernel_rfl) (by kernel_rfl) (fun _ _ _ h => h) (Or.inl ⟨by rfl, ?hy33⟩) (by assumption) ?rest33
  case hy33 => (intro w hSw; (try dsimp only at hSw); go_simp; try with_reducible rfl)
  (try simp only [Act.put, List.setIfInBounds_toArray, List.set_cons_zero, List.set_cons_succ])
  refine wpAnyH_take (i := 11) (v := ?v34) rfl (by kernel_rfl) (by kernel_rfl) (by kernel_rfl) (fun _ _ _ h => h) (Or.inl ⟨by rfl, ?hy34⟩) (by assumption) ?rest34
  case hy34 => (intro w hSw; (try dsimp only at hSw); go_simp; try with_reducible rfl)
  (try simp only [Act.put, List.setIfInBounds_toArray, List.set_cons_zero, List.set_cons_succ])
  refine wpAnyH_take (i := 12) (v := ?v35) rfl (by kernel_rfl) (by kernel_rfl) (by kernel_rfl) (fun _ _ _ h => h) (Or.inl ⟨by rfl, ?hy35⟩) (by assumption) ?rest35
  case hy35 => (intro w hSw; (try dsimp only at hSw); go_simp; try with_reducible rfl)
  (try simp only [Act.put, List.setIfInBounds_toArray, List.set_cons_zero, List.set_cons_succ])
  refine wpAnyH_take (i := 13) (v := ?v36) rfl (by kernel_rfl) (by kernel_rfl) (by kernel_rfl) (fun _ _ _ h => h) (Or.inl ⟨by rfl, ?hy36⟩) (by assumption) ?rest36
  case hy36 => (intro w hSw; (try dsimp only at hSw); go_simp; try with_reducible rfl)
  (try simp only [Act.put, List.setIfInBounds_toArray, List.set_cons_zero, List.set_cons_succ])
  refine wpAnyH_take (i := 14) (v := ?v37) rfl (by kernel_rfl) (by kernel_rfl) (by kernel_rfl) (fun _ _ _ h => h) (Or.inl ⟨by rfl, ?hy37⟩) (by assumption) ?rest37
  case hy37 => (intro w hSw; (try dsimp only at hSw); go_simp; try with_reducible rfl)
  (try simp only [Act.put, List.setIfInBounds_toArray, List.set_cons_zero, List.set_cons_succ])
  refine wpAnyH_take (i := 15) (v := ?v38) rfl (by kernel_rfl) (by kernel_rfl) (by kernel_rfl) (fun _ _ _ h => h) (Or.inl ⟨by rfl, ?hy38⟩) (by assumption) ?rest38
  case hy38 => (intro w hSw; (try dsimp only at hSw); go_simp; try with_reducible rfl)
  (try simp only [Act.put, List.setIfInBounds_toArray, List.set_cons_zero, List.set_cons_succ])
  refine wpAnyH_take (i := 16) (v := ?v39) rfl (by kernel_rfl) (by kernel_rfl) (by kernel_rfl) (fun _ _ _ h => h) (Or.inl ⟨by rfl, ?hy39⟩) (by assumption) ?rest39
  case hy39 => (intro w hSw; (try dsimp only at hSw); go_simp; try with_reducible rfl)
  (try simp only [Act.put, List.setIfInBounds_toArray, List.set_cons_zero, List.set_cons_succ])
  refine wpAnyH_take (i := 17) (v := ?v40) rfl (by kernel_rfl) (by kernel_rfl) (by kernel_rfl) (fun _ _ _ h => h) (Or.inl ⟨by rfl, ?hy40⟩) (by assumption) ?rest40
  case hy40 => (intro w hSw; (try dsimp only at hSw); go_simp; try with_reducible rfl)
  (try simp only [Act.put, List.setIfInBounds_toArray, List.set_cons_zero, List.set_cons_succ])
  refine wpAnyH_take (i := 18) (v := ?v41) rfl (by kernel_rfl) (by kernel_rfl) (by kernel_rfl) (fun _ _ _ h => h) (Or.inl ⟨by rfl, ?hy41⟩) (by assumption) ?rest41
  case hy41 => (intro w hSw; (try dsimp only at hSw); go_simp; try with_reducible rfl)
  (try simp only [Act.put, List.setIfInBounds_toArray, List.set_cons_zero, List.set_cons_succ])
  refine wpAnyH_take (i := 19) (v := ?v42) rfl (by kernel_rfl) (by kernel_rfl) (by kernel_rfl) (fun _ _ _ h => h) (Or.inl ⟨by rfl, ?hy42⟩) (by assumption) ?rest42
  case hy42 => (intro w hSw; (try dsimp only at hSw); go_simp; try with_reducible rfl)
  (try simp only [Act.put, List.setIfInBounds_toArray, List.set_cons_zero, List.set_cons_succ])
  refine wpAnyH_take (i := 20) (v := ?v43) rfl (by kernel_rfl) (by kernel_rfl) (by kernel_rfl) (fun _ _ _ h => h) (Or.inl ⟨by rfl, ?hy43⟩) (by assumption) ?rest43
  case hy43 => (intro w hSw; (try dsimp only at hSw); go_simp; try with_reducible rfl)
  (try simp only [Act.put, List.setIfInBounds_toArray, List.set_cons_zero, List.set_cons_succ])
  refine wpAnyH_ready (rs := [21]) (by kernel_rfl) (by simp) ?_
  refine AllReadyH.cons rfl (fun K hK => ?_) ?_
  · skip
    go_simp
    refine hK.out _ _ ?_ (fun hHeld => ?_)
    · exact KAa.out
    clear hK K
    (try simp only [Act.put, List.setIfInBounds_toArray, List.set_cons_zero, List.set_cons_succ])
    refine wpAnyH_ready (rs := [22]) (by kernel_rfl) (by simp) ?_
    refine AllReadyH.cons rfl (fun K hK => ?_) ?_
    · skip
      refine step_append_lies _ (by rfl) _ _ _ (by rfl) 0 211 i0a _ 2 8 Tryz.underlying209 HIa.out.1 HIa.out.2.1 HIa.out.2.2.1 HIa.out.2.2.2 rfl (by omega) (.slice AWa Ma cwa) Ma (watCells (d.F q0)) (by rfl) (by exact row_same ((by have := HOa.out; rw [HMa.out] at this; exact this : w0a.ownsRow 0 211 2 (.slice AWa Ma cwa) Ma (watCells (d.F q0))).alloc _) rfl) ⟨w0a.heap.size, 0, none⟩ 1 1 [.int .i32 (k : Int), .int .i32 (q1 : Int)] (by rfl) (by rfl) (by exact World.news_of_block (cs := #[.int .i32 (k : Int), .int .i32 (q1 : Int)]) (t := 211) (fr := (0, 0)) (new_at (W := w0a) rfl rfl)) (by simp [Value.oneCell']) (by omega) (by unfold maxLen; omega) (by omega) (Nat.zero_le _) (w0a.heap.size + 1) (by simp) ?_
      intro g1a cpa wpa hown1 hg1 hat1 hlt1
      have HX := FINa.out wpa cpa g1a (by rw [HMa.out]; exact grown_alike hg1 rfl rfl rfl rfl) (by rw [HMa.out]; exact hown1) (by rw [HMa.out]; exact hat1)
      rw [HMa.out] at HX
      have c9a := HX.1.1
      have r9a := HX.1.2.1
      have c1a : wpa.cell? ⟨p, 1, none⟩ = some (.slice (some ⟨gwa, 0, none⟩) Na Na) := (by rw [← HNa.out]; exact HX.1.2.2)
      have d0a : wpa.cell? ⟨gl, 0, none⟩ = some (.int .i32 (q0 : Int)) := HX.2.1 0 q0 Hq0.out.1
      have d1a : wpa.cell? ⟨gl, 1, none⟩ = some (.int .i32 (q1 : Int)) := HX.2.1 1 q1 Hq1.out.1
      have zwa : gl < wpa.heap.size := HX.2.2.1
      have HFFa := Lib.hid HX.2.2.2
      clear hown1 hg1 hat1 hlt1 HX
      refine hK.out _ _ ?_ (fun hHeld => ?_)
      · exact ⟨c1a, d0a, d1a, c9a⟩
      clear hK K
      (try simp only [Act.put, List.setIfInBounds_toArray, List.set_cons_zero, List.set_cons_succ])
      refine wpAnyH_take (i := 23) (v := ?v44) rfl (by kernel_rfl) (by kernel_rfl) (by kernel_rfl) (fun _ _ _ h => h) (Or.inl ⟨by rfl, ?hy44⟩) (by assumption) ?rest44
      case hy44 => (intro w hSw; (try dsimp only at hSw); go_simp; try with_reducible rfl)
      (try simp only [Act.put, List.setIfInBounds_toArray, List.set_cons_zero, List.set_cons_succ])
      refine wpAnyH_done (by kernel_rfl) ?_ _
      show Oper.wp _ _ _ _ _ _
      simp only [List.getElem_toArray, List.getElem_cons_succ, List.getElem_cons_zero]
      go_simp
      obtain ⟨τ2, r3, t3, c3⟩ := HFFa.out
      have R2 := Lib.hid (show Sr B τ2 (wpa.setCell ⟨gwa, q0, none⟩ (.slice (some ⟨g1a, 0, none⟩) (Ma + 1) cpa)) p n d1 by rw [HD1.out]; exact r3)
      have C2 := Lib.hid (show Cla τ2 (wpa.setCell ⟨gwa, q0, none⟩ (.slice (some ⟨g1a, 0, none⟩) (Ma + 1) cpa)) p m k c ga capa gl capl from c3)
      have T2 := Lib.hid (show Stp τ τ2 w (wpa.setCell ⟨gwa, q0, none⟩ (.slice (some ⟨g1a, 0, none⟩) (Ma + 1) cpa)) from T4a.out.trans t3)
      clear r3 t3 c3 HFFa c9a r9a c1a d0a d1a zwa ngwa zla zpa w1a w2a w3a w4a yaa yba KBa KAa FINa HOa hHeld R4a C4a T4a
      generalize (wpa.setCell ⟨gwa, q0, none⟩ (.slice (some ⟨g1a, 0, none⟩) (Ma + 1) cpa)) = W2 at *
      have B1b : Below W2.heap.size W2 W2.drew := Below.draws (Below.refl _ _) 1
      have R4b := Lib.hid (R2.out.below B1b)
      have C4b := Lib.hid (C2.out.step (R := fun _ => False) R2.out.plt (Step.of_below _ τ2 B1b) id id id)
      have T4b := Lib.hid (T2.out.trans (Stp.of_below τ2 B1b))
      obtain ⟨gwb, AWb, cwb, hWb⟩ := R4b.out.wat Hq1.out.2
      have w1b := hWb.head
      have w2b : W2.drew.cell? ⟨gwb, q1, none⟩ = some (.slice AWb (d1.F q1).length cwb) := hWb.at_
      have w3b := hWb.wfree
      have w4b := hWb.wlt
      have yab : W2.drew.cell? ⟨gl, 1, none⟩ = some (.int .i32 (q1 : Int)) := C4b.out.cell 1 q1 Hq1.out.1
      have ybb : W2.drew.cell? ⟨gl, 0, none⟩ = some (.int .i32 (q0 : Int)) := C4b.out.cell 0 q0 Hq0.out.1
      have zlb := C4b.out.llt
      have zpb := R4b.out.plt
      have ngwb : gl ≠ gwb := fun e => by have h1 := C4b.out.lrole; have h2 := hWb.wrole; rw [e, h2] at h1; omega
      have FINb := Lib.hid (look_fin R4b.out hWb Hq1.out.2 HG1.out C4b.out HKb.out.1 hlp HKb.out.2 (k, q0))
      have HFLb := HFbb.out q1
      have q0b : (0 : Int) ≤ (q1 : Int) := by omega
      have q1b : (q1 : Int) < ((2 * n : Nat) : Int) := by have := Hq1.out.2; omega
      obtain ⟨i0b, hi0, hz0, hz1, hz2⟩ := info_parts infoWat
      have HIb := Lib.hid (show _ ∧ _ ∧ _ ∧ _ from ⟨hi0, hz0, hz1, hz2⟩)
      have HOb := Lib.hid hWb.own
      clear hWb hi0 hz0 hz1 hz2 B1b R2 C2 T2
      obtain ⟨Nb, hN⟩ : ∃ N, 2 * n = N := ⟨_, rfl⟩
      rw [hN] at w1b q1b
      obtain ⟨Mb, hM⟩ : ∃ M, (d1.F q1).length = M := ⟨_, rfl⟩
      rw [hM] at w2b HFLb
      have HNb := Lib.hid hN
      have HMb := Lib.hid hM
      clear hN hM
      have KBb := Lib.hid (show ∀ X, Below W2.drew.heap.size W2.drew X → X.cell? ⟨p, 1, none⟩ = some (.slice (some ⟨gwb, 0, none⟩) Nb Nb) ∧ X.cell? ⟨gl, 1, none⟩ = some (.int .i32 (q1 : Int)) ∧ X.cell? ⟨gl, 0, none⟩ = some (.int .i32 (q0 : Int)) ∧ X.cell? ⟨gwb, q1, none⟩ = some (.slice AWb Mb cwb) from fun X b => ⟨(b.cell (lt_of_cell w1b)).trans w1b, (b.cell (lt_of_cell yab)).trans yab, (b.cell (lt_of_cell ybb)).trans ybb, (b.cell (lt_of_cell w2b)).trans w2b⟩)
      go_wp2_with fail
      refine region_last (S := fun w' => w'.cell? ⟨p, 1, none⟩ = some (.slice (some ⟨gwb, 0, none⟩) Nb Nb) ∧ w'.cell? ⟨gl, 1, none⟩ = some (.int .i32 (q1 : Int)) ∧ w'.cell? ⟨gl, 0, none⟩ = some (.int .i32 (q0 : Int)) ∧ w'.cell? ⟨gwb, q1, none⟩ = some (.slice AWb Mb cwb)) (by kernel_rfl) (by rfl) (by rfl) (by kernel_rfl) ⟨w1b, yab, ybb, w2b⟩ (fun hHeld => ?_)
      generalize W2.drew = w0b at *
      have KAb := Lib.hid (KBb.out (w0b.alloc (.cells #[.int .i32 (k : Int), .int .i32 (q0 : Int)] 211)) ((Below.refl _ _).alloc (Nat.le_refl _) _))
      simp only [List.pop_toArray, List.dropLast_cons_cons, List.dropLast_singleton]
      refine wpAnyH_take (i := 0) (v := ?v1) rfl (by kernel_rfl) (by kernel_rfl) (by kernel_rfl) (fun _ _ _ h => h) (Or.inl ⟨by rfl, ?hy1⟩) (by assumption) ?rest1
      case hy1 => (intro w hSw; (try dsimp only at hSw); go_simp; try with_reducible rfl)
      (try simp only [Act.put, List.setIfInBounds_toArray, List.set_cons_zero, List.set_cons_succ])
      refine wpAnyH_take (i := 1) (v := ?v2) rfl (by kernel_rfl) (by kernel_rfl) (by kernel_rfl) (fun _ _ _ h => h) (Or.inl ⟨by rfl, ?hy2⟩) (by assumption) ?rest2
      case hy2 => (intro w hSw; (try dsimp only at hSw); go_simp; try with_reducible rfl)
      (try simp only [Act.put, List.setIfInBounds_toArray, List.set_cons_zero, List.set_cons_succ])
      refine wpAnyH_take (i := 2) (v := ?v3) rfl (by kernel_rfl) (by kernel_rfl) (by kernel_rfl) (fun _ _ _ h => h) (Or.inl ⟨by rfl, ?hy3⟩) (by assumption) ?rest3
      case hy3 => (intro w hSw; (try dsimp only at hSw); go_simp; try with_reducible rfl)
      (try simp only [Act.put, List.setIfInBounds_toArray, List.set_cons_zero, List.set_cons_succ])
      refine wpAnyH_take (i := 3) (v := ?v4) rfl (by kernel_rfl) (by kernel_rfl) (by kernel_rfl) (fun _ _ _ h => h) (Or.inl ⟨by rfl, ?hy4⟩) (by assumption) ?rest4
      case hy4 => (intro w hSw; (try dsimp only at hSw); go_simp; try with_reducible rfl)
      (try simp only [Act.put, List.setIfInBounds_toArray, List.set_cons_zero, List.set_cons_succ])
      refine wpAnyH_take (i := 4) (v := ?v5) rfl (by kernel_rfl) (by kernel_rfl) (by kernel_rfl) (fun _ _ _ h => h) (Or.inl ⟨by rfl, ?hy5⟩) (by assumption) ?rest5
      case hy5 => (intro w hSw; (try dsimp only at hSw); go_simp; try with_reducible rfl)
      (try simp only [Act.put, List.setIfInBounds_toArray, List.set_cons_zero, List.set_cons_succ])
      refine wpAnyH_take (i := 5) (v := ?v6) rfl (by kernel_rfl) (by kernel_rfl) (by kernel_rfl) (fun _ _ _ h => h) (Or.inl ⟨by rfl, ?hy6⟩) (by assumption) ?rest6
      case hy6 => (intro w hSw; (try dsimp only at hSw); go_simp; try with_reducible rfl)
      (try simp only [Act.put, List.setIfInBounds_toArray, List.set_cons_zero, List.set_cons_succ])
      refine wpAnyH_take (i := 6) (v := ?v7) rfl (by kernel_rfl) (by kernel_rfl) (by kernel_rfl) (fun _ _ _ h => h) (Or.inl ⟨by rfl, ?hy7⟩) (by assumption) ?rest7
      case hy7 => (intro w hSw; (try dsimp only at hSw); go_simp; try with_reducible rfl)
      (try simp only [Act.put, List.setIfInBounds_toArray, List.set_cons_zero, List.set_cons_succ])
      refine wpAnyH_take (i := 7) (v := ?v8) rfl (by kernel_rfl) (by kernel_rfl) (by kernel_rfl) (fun _ _ _ h => h) (Or.inl ⟨by rfl, ?hy8⟩) (by assumption) ?rest8
      case hy8 => (intro w hSw; (try dsimp only at hSw); go_simp; try with_reducible rfl)
      (try simp only [Act.put, List.setIfInBounds_toArray, List.set_cons_zero, List.set_cons_succ])
      refine wpAnyH_take (i := 8) (v := ?v9) rfl (by kernel_rfl) (by kernel_rfl) (by kernel_rfl) (fun _ _ _ h => h) (Or.inl ⟨by rfl, ?hy9⟩) (by assumption) ?rest9
      case hy9 => (intro w hSw; (try dsimp only at hSw); go_simp; try with_reducible rfl)
      (try simp only [Act.put, List.setIfInBounds_toArray, List.set_cons_zero, List.set_cons_succ])
      refine wpAnyH_take (i := 9) (v := ?v10) rfl (by kernel_rfl) (by kernel_rfl) (by kernel_rfl) (fun _ _ _ h => h) (Or.inl ⟨by rfl, ?hy10⟩) (by assumption) ?rest10
      case hy10 => (intro w hSw; (try dsimp only at hSw); go_simp; try with_reducible rfl)
      (try simp only [Act.put, List.setIfInBounds_toArray, List.set_cons_zero, List.set_cons_succ])
      refine wpAnyH_take (i := 10) (v := ?v11) rfl (by kernel_rfl) (by kernel_rfl) (by kernel_rfl) (fun _ _ _ h => h) (Or.inl ⟨by rfl, ?hy11⟩) (by assumption) ?rest11
      case hy11 => (intro w hSw; (try dsimp only at hSw); go_simp; try with_reducible rfl)
      (try simp only [Act.put, List.setIfInBounds_toArray, List.set_cons_zero, List.set_cons_succ])
      refine wpAnyH_take (i := 11) (v := ?v12) rfl (by kernel_rfl) (by kernel_rfl) (by kernel_rfl) (fun _ _ _ h => h) (Or.inl ⟨by rfl, ?hy12⟩) (by assumption) ?rest12
      case hy12 => (intro w hSw; (try dsimp only at hSw); go_simp; try with_reducible rfl)
      (try simp only [Act.put, List.setIfInBounds_toArray, List.set_cons_zero, List.set_cons_succ])
      refine wpAnyH_take (i := 12) (v := ?v13) rfl (by kernel_rfl) (by kernel_rfl) (by kernel_rfl) (fun _ _ _ h => h) (Or.inl ⟨by rfl, ?hy13⟩) (by assumption) ?rest13
      case hy13 => (intro w hSw; (try dsimp only at hSw); go_simp; try with_reducible rfl)
      (try simp only [Act.put, List.setIfInBounds_toArray, List.set_cons_zero, List.set_cons_succ])
      refine wpAnyH_take (i := 13) (v := ?v14) rfl (by kernel_rfl) (by kernel_rfl) (by kernel_rfl) (fun _ _ _ h => h) (Or.inl ⟨by rfl, ?hy14⟩) (by assumption) ?rest14
      case hy14 => (intro w hSw; (try dsimp only at hSw); go_simp; try with_reducible rfl)
      (try simp only [Act.put, List.setIfInBounds_toArray, List.set_cons_zero, List.set_cons_succ])
      refine wpAnyH_take (i := 14) (v := ?v15) rfl (by kernel_rfl) (by kernel_rfl) (by kernel_rfl) (fun _ _ _ h => h) (Or.inl ⟨by rfl, ?hy15⟩) (by assumption) ?rest15
      case hy15 => (intro w hSw; (try dsimp only at hSw); go_simp; try with_reducible rfl)
      (try simp only [Act.put, List.setIfInBounds_toArray, List.set_cons_zero, List.set_cons_succ])
      refine wpAnyH_take (i := 15) (v := ?v16) rfl (by kernel_rfl) (by kernel_rfl) (by kernel_rfl) (fun _ _ _ h => h) (Or.inl ⟨by rfl, ?hy16⟩) (by assumption) ?rest16
      case hy16 => (intro w hSw; (try dsimp only at hSw); go_simp; try with_reducible rfl)
      (try simp only [Act.put, List.setIfInBounds_toArray, List.set_cons_zero, List.set_cons_succ])
      refine wpAnyH_take (i := 16) (v := ?v17) rfl (by kernel_rfl) (by kernel_rfl) (by kernel_rfl) (fun _ _ _ h => h) (Or.inl ⟨by rfl, ?hy17⟩) (by assumption) ?rest17
      case hy17 => (intro w hSw; (try dsimp only at hSw); go_simp; try with_reducible rfl)
      (try simp only [Act.put, List.setIfInBounds_toArray, List.set_cons_zero, List.set_cons_succ])
      refine wpAnyH_take (i := 17) (v := ?v18) rfl (by kernel_rfl) (by kernel_rfl) (by kernel_rfl) (fun _ _ _ h => h) (Or.inl ⟨by rfl, ?hy18⟩) (by assumption) ?rest18
      case hy18 => (intro w hSw; (try dsimp only at hSw); go_simp; try with_reducible rfl)
      (try simp only [Act.put, List.setIfInBounds_toArray, List.set_cons_zero, List.set_cons_succ])
      refine wpAnyH_take (i := 18) (v := ?v19) rfl (by kernel_rfl) (by kernel_rfl) (by kernel_rfl) (fun _ _ _ h => h) (Or.inl ⟨by rfl, ?hy19⟩) (by assumption) ?rest19
      case hy19 => (intro w hSw; (try dsimp only at hSw); go_simp; try with_reducible rfl)
      (try simp only [Act.put, List.setIfInBounds_toArray, List.set_cons_zero, List.set_cons_succ])
      refine wpAnyH_take (i := 19) (v := ?v20) rfl (by kernel_rfl) (by kernel_rfl) (by kernel_rfl) (fun _ _ _ h => h) (Or.inl ⟨by rfl, ?hy20⟩) (by assumption) ?rest20
      case hy20 => (intro w hSw; (try dsimp only at hSw); go_simp; try with_reducible rfl)
      (try simp only [Act.put, List.setIfInBounds_toArray, List.set_cons_zero, List.set_cons_succ])
      refine wpAnyH_take (i := 20) (v := ?v21) rfl (by kernel_rfl) (by kernel_rfl) (by kernel_rfl) (fun _ _ _ h => h) (Or.inl ⟨by rfl, ?hy21⟩) (by assumption) ?rest21
      case hy21 => (intro w hSw; (try dsimp only at hSw); go_simp; try with_reducible rfl)
      (try simp only [Act.put, List.setIfInBounds_toArray, List.set_cons_zero, List.set_cons_succ])
      refine wpAnyH_ready (rs := [21]) (by kernel_rfl) (by simp) ?_
      refine AllReadyH.cons rfl (fun K hK => ?_) ?_
      · skip
        go_simp
        refine hK.out _ _ ?_ (fun hHeld => ?_)
        · exact KAb.out
        clear hK K
        (try simp only [Act.put, List.setIfInBounds_toArray, List.set_cons_zero, List.set_cons_succ])
        refine wpAnyH_ready (rs := [22]) (by kernel_rfl) (by simp) ?_
        refine AllReadyH.cons rfl (fun K hK => ?_) ?_
        · skip
          refine step_append_lies _ (by rfl) _ _ _ (by rfl) 0 211 i0b _ 2 8 Tryz.underlying209 HIb.out.1 HIb.out.2.1 HIb.out.2.2.1 HIb.out.2.2.2 rfl (by omega) (.slice AWb Mb cwb) Mb (watCells (d1.F q1)) (by rfl) (by exact row_same ((by have := HOb.out; rw [HMb.out] at this; exact this : w0b.ownsRow 0 211 2 (.slice AWb Mb cwb) Mb (watCells (d1.F q1))).alloc _) rfl) ⟨w0b.heap.size, 0, none⟩ 1 1 [.int .i32 (k : Int), .int .i32 (q0 : Int)] (by rfl) (by rfl) (by exact World.news_of_block (cs := #[.int .i32 (k : Int), .int .i32 (q0 : Int)]) (t := 211) (fr := (0, 0)) (new_at (W := w0b) rfl rfl)) (by simp [Value.oneCell']) (by omega) (by unfold maxLen; omega) (by omega) (Nat.zero_le _) (w0b.heap.size + 1) (by simp) ?_
          intro g1b cpb wpb hown1 hg1 hat1 hlt1
          have HX := FINb.out wpb cpb g1b (by rw [HMb.out]; exact grown_alike hg1 rfl rfl rfl rfl) (by rw [HMb.out]; exact hown1) (by rw [HMb.out]; exact hat1)
          rw [HMb.out] at HX
          have c9b := HX.1.1
          have r9b := HX.1.2.1
          have c1b : wpb.cell? ⟨p, 1, none⟩ = some (.slice (some ⟨gwb, 0, none⟩) Nb Nb) := (by rw [← HNb.out]; exact HX.1.2.2)
          have d0b : wpb.cell? ⟨gl, 1, none⟩ = some (.int .i32 (q1 : Int)) := HX.2.1 1 q1 Hq1.out.1
          have d1b : wpb.cell? ⟨gl, 0, none⟩ = some (.int .i32 (q0 : Int)) := HX.2.1 0 q0 Hq0.out.1
          have zwb : gl < wpb.heap.size := HX.2.2.1
          have HFFb := Lib.hid HX.2.2.2
          clear hown1 hg1 hat1 hlt1 HX
          refine hK.out _ _ ?_ (fun hHeld => ?_)
          · exact ⟨c1b, d0b, d1b, c9b⟩
          clear hK K
          (try simp only [Act.put, List.setIfInBounds_toArray, List.set_cons_zero, List.set_cons_succ])
          refine wpAnyH_take (i := 23) (v := ?v22) rfl (by kernel_rfl) (by kernel_rfl) (by kernel_rfl) (fun _ _ _ h => h) (Or.inl ⟨by rfl, ?hy22⟩) (by assumption) ?rest22
          case hy22 => (intro w hSw; (try dsimp only at hSw); go_simp; try with_reducible rfl)
          (try simp only [Act.put, List.setIfInBounds_toArray, List.set_cons_zero, List.set_cons_succ])
          refine wpAnyH_done (by kernel_rfl) ?_ _
          show Oper.wp _ _ _ _ _ _
          simp only [List.getElem_toArray, List.getElem_cons_succ, List.getElem_cons_zero]
          go_simp
          obtain ⟨τ3b, r3, t3, c3⟩ := HFFb.out
          have HE := Lib.hid (HEND.out _ _ r3 (T4b.out.trans t3))
          clear r3 t3 c3 HFFb
          go_end0
          exact ⟨rfl, HE.out⟩
        exact AllReadyH.nil
      exact AllReadyH.nil
    exact AllReadyH.nil
  exact AllReadyH.nil
end
end Go.Proofs.YtpmdnbdmocdngaaGreat
