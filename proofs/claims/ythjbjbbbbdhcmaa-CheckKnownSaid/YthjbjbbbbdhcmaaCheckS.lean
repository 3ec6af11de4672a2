/-
  The document's own Check: up to the first fault.
-/
import Derived.Test.YthjbjbbbbdhcmaaCheckR
import Derived.Test.YthjbjbbbbdhcmaaProgC
import Derived.Deep.LoopGhost
import Derived.Deep.OwnRows
import Derived.Deep.CutBlock
namespace Go.Proofs.Ythjbjbbbbdhcmaa
open Go.ChangeShapes Go.WideShapes Go.ChangeAt Go.RowKit Go.Joins
set_option linter.unusedVariables false

abbrev ChkPost (L : List (Int × Int)) (N : List ByteArray) (W : World) (e : Ending) (W' : World) : Prop :=
  ∃ (k f : Int) (v : Value) (hs : List Int), e = .returned (.tuple #[.int .i64 k, .int .i64 f, v]) ∧ Is L N k f hs ∧ NRow W W' v hs
theorem chk_post {L : List (Int × Int)} {N : List ByteArray} {W W' : World} {k f : Int} (h : Is L N k f []) (g : Gw W W') : ChkPost L N W (.returned (.tuple #[.int .i64 k, .int .i64 f, .slice none 0 0])) W' :=
  ⟨k, f, _, [], rfl, h, ⟨⟨rfl, .inl ⟨rfl, rfl⟩⟩, g⟩⟩
theorem Gw.drewN {a w : World} (h : Gw a w) (n : Nat) : Gw a (w.drewN n) := h.trans (Grown.gw (grown_drewN (Grown.refl w) n))
theorem fault_5 {n m i : Nat} {x : Int × Int} (h : okI x = false) : fault n m i x = 5 := by unfold fault; rw [if_pos h]
theorem fault_10 {n m i : Nat} {x : Int × Int} (h : okI x = true) {a : Int} (ha : a ∈ namesOf x) (hm : (m : Int) ≤ a) : fault n m i x = 10 := by
  unfold fault
  rw [if_neg (by rw [h]; decide), if_pos (List.any_eq_true.2 ⟨a, ha, decide_eq_true hm⟩)]
theorem fault_eq {n m i : Nat} {x : Int × Int} (h1 : okI x = true) (h2 : ∀ a ∈ namesOf x, a < m) : fault n m i x = if (x.1 = 22 ∨ x.1 = 23) ∧ (n : Int) ≤ x.2 then 6 else if (x.1 ≠ 22 ∧ x.1 ≠ 26) ∧ i + 1 = n then 8 else 0 := by
  unfold fault
  rw [if_neg (by rw [h1]; decide), if_neg]
  intro h
  obtain ⟨a, ha, hb⟩ := List.any_eq_true.1 h
  have := h2 a ha
  have := of_decide_eq_true hb
  omega
theorem fault_zero {n m i : Nat} {x : Int × Int} (h : fault n m i x = 0) : okI x = true ∧ ((x.1 = 22 ∨ x.1 = 23) → x.2 < n) ∧ (x.1 ≠ 22 → x.1 ≠ 26 → i + 1 ≠ n) := by
  unfold fault at h
  split at h
  · cases h
  · rename_i h1
    split at h
    · cases h
    · split at h
      · cases h
      · rename_i h3
        split at h
        · cases h
        · rename_i h4
          refine ⟨by simpa using h1, fun hj => ?_, fun a b e => h4 ⟨⟨a, b⟩, e⟩⟩
          by_cases hn : x.2 < n
          · exact hn
          · exact absurd ⟨hj, by omega⟩ h3
theorem tk_gv {o : Nat} (ho : o < 42) : 0 ≤ tk o ∧ tk o ≤ 3 ∧ 0 ≤ gv o ∧ gv o ≤ 2 := by
  have all : ∀ j : Fin 42, 0 ≤ tk j.val ∧ tk j.val ≤ 3 ∧ 0 ≤ gv j.val ∧ gv j.val ≤ 2 := by decide +kernel
  exact all ⟨o, ho⟩
theorem NRow.shape {w wr : World} {v : Value} {l : List Int} (h : NRow w wr v l) : ∃ A cap, v = .slice A l.length cap ∧ ∀ j a, l[j]? = some a → ∃ g, A = some ⟨g, 0, none⟩ ∧ wr.cell? ⟨g, j, none⟩ = some (.int .i64 a) := by
  have ho := h.own
  rcases ho.2 with ⟨h0, hx⟩ | ⟨g, cap, cur, h0, _⟩
  · have : l = [] := by simpa [i64s] using hx
    subst this
    exact ⟨none, 0, h0, fun j a ha => by simp at ha⟩
  · subst h0
    refine ⟨some ⟨g, 0, none⟩, cap, rfl, fun j a ha => ⟨g, rfl, ?_⟩⟩
    rw [World.ownsRow.cellAt ho j (by have := (List.getElem?_eq_some_iff.1 ha).1; omega), i64s, List.getElem?_map, ha]
    rfl
theorem namesOf_len (x : Int × Int) : (namesOf x).length ≤ 2 := by unfold namesOf; split; · simp
                                                                   split <;> simp
set_option maxRecDepth 100000 in
set_option maxHeartbeats 4000000 in
theorem rcheck_any {W : World} {A B : Option Addr} {L : List (Int × Int)} {N : List ByteArray} {ca cb : Nat} (h : POk W A L ca B N cb) :
    Calls Try.prog 11 #[.agg #[.slice A L.length ca, .slice B N.length cb]] W (ChkPost L N W) := by
  have HK := Lib.hid (h.alloc (.cells #[.slice A L.length ca, .slice B N.length cb] 25))
  have HG := Lib.hid (Gw.alloc W (.cells #[.slice A L.length ca, .slice B N.length cb] 25))
  obtain ⟨c0, c1, f0, f1⟩ := two_cells (heap_alloc_new W (.cells #[.slice A L.length ca, .slice B N.length cb] 25))
  clear h
  by_cases hS : Sized L N
  case neg =>
    as_aux_lemma =>
    have HI := Lib.hid (Is.full hS)
    have h3 : L.length = 0 ∨ 96 < L.length ∨ (1 ≤ L.length ∧ L.length ≤ 96 ∧ 8 < N.length) := by
      by_cases a : L.length = 0
      · exact .inl a
      by_cases b : 96 < L.length
      · exact .inr (.inl b)
      by_cases c : 8 < N.length
      · exact .inr (.inr ⟨by omega, by omega, c⟩)
      exact absurd ⟨by omega, by omega, by omega⟩ hS
    clear hS
    rcases h3 with a | a | ⟨a, b, c⟩
    · have b0 : ((L.length : Int) == 0) = true := by simp [a]
      clear a
      go_enter Try.func11, Try.ntmps11
      go_wp2
      all_goals
        go_ret3
        exact chk_post HI.out HG.out
    · have b0 : ((L.length : Int) == 0) = false := by simp; intro e; subst e; simp at a
      have b1 : decide ((96 : Int) < L.length) = true := decide_eq_true (by omega)
      clear a
      go_enter Try.func11, Try.ntmps11
      go_wp2
      all_goals
        go_ret3
        exact chk_post HI.out HG.out
    · have b0 : ((L.length : Int) == 0) = false := by simp; intro e; subst e; simp at a
      have b1 : decide ((96 : Int) < L.length) = false := decide_eq_false (by omega)
      have b2 : decide ((8 : Int) < N.length) = true := decide_eq_true (by omega)
      clear a b c
      go_enter Try.func11, Try.ntmps11
      go_wp2
      all_goals
        go_ret3
        exact chk_post HI.out HG.out
  have hl1 := hS.l1
  have hl2 := hS.l2
  have hn8 := hS.n
  have HS := Lib.hid hS
  clear hS
  have b0 : ((L.length : Int) == 0) = false := by simp; intro e; subst e; simp at hl1
  have b1 : decide ((96 : Int) < L.length) = false := decide_eq_false (by omega)
  have b2 : decide ((8 : Int) < N.length) = false := decide_eq_false (by omega)
  go_enter Try.func11, Try.ntmps11
  go_upto_region 4 with fail
  generalize hW1 : W.alloc (.cells #[.slice A L.length ca, .slice B N.length cb] 25) = W1 at *
  clear hW1
  clear b0 b1 b2
  go_wp2
  go_loopw [6] (fun i wr => ∃ k : Nat, k ≤ N.length ∧ i = .int .i64 k ∧ Hid (∀ j s, j < k → N[j]? = some s → nameB s.data.toList = true) ∧ Hid (Gw W1 wr)) (fun i _ => N.length - (intOf i).toNat)
  case atStart => exact ⟨0, by omega, rfl, fun j s hj => by omega, Gw.refl _⟩
  case round =>
    obtain ⟨k, hk, rfl, HE, G⟩ := hrel
    have d0 := G.out.cell c0
    have d1 := G.out.cell c1
    have HKr := Lib.hid (HK.out.gw G.out)
    by_cases hlt : k < N.length
    · as_aux_lemma =>
      obtain ⟨s, hs⟩ : ∃ s, N[k]? = some s := ⟨_, List.getElem?_eq_getElem hlt⟩
      have hBlt : ∀ g off, B = some ⟨g, off, Option.none⟩ → True := fun _ _ _ => trivial
      obtain ⟨g, off, rfl, hg, hcell⟩ := HKr.out.str k s hs
      have F := rname_any s
      cases hb : nameB s.data.toList with
      | true =>
        have HE2 : Hid (∀ j s, j < k + 1 → N[j]? = some s → nameB s.data.toList = true) := fun j s' hj hs' => by
          by_cases e : j = k
          · subst e; rw [hs] at hs'; injection hs' with hs'; subst hs'; exact hb
          · exact HE.out j s' (by omega) hs'
        rw [hb] at F
        clear hs HE hb
        go_wp2_with (go_at_call 17; with_reducible refine (F _).mono ?_; rintro e w' ⟨rfl, G1⟩)
        go_roundw
        case rel => exact ⟨k + 1, by omega, by go_num, HE2, G.out.trans G1⟩
        case measure => simp [intOf]; omega
      | false =>
        have HX := Lib.hid (Is.name HS.out (fun k => by
          have := k s (List.mem_of_getElem? hs)
          rw [hb] at this
          cases this))
        rw [hb] at F
        clear hs HE hb
        go_wp2_with (go_at_call 17; with_reducible refine (F _).mono ?_; rintro e w' ⟨rfl, G1⟩)
        go_ret3
        exact chk_post HX.out (HG.out.trans (G.out.trans G1))
    · obtain rfl : k = N.length := by omega
      have HNM : Hid (Named N) := fun s hs => by
        obtain ⟨j, hj⟩ := List.getElem?_of_mem hs
        exact HE.out j s (List.getElem?_eq_some_iff.1 hj).1 hj
      clear HE hlt hk
      go_upto_region 9 with fail
      obtain ⟨wo, hwo⟩ : ∃ x, x = wr := ⟨_, rfl⟩
      subst hwo
      have GO := G
      clear G d0 d1 HKr
      go_wp2
      go_loopw [7] (fun i wr => ∃ k : Nat, k ≤ L.length ∧ i = .int .i64 k ∧ Hid (∀ j y, j < k → L[j]? = some y → fault L.length N.length j y = 0) ∧ Hid (Gw W1 wr)) (fun i _ => L.length - (intOf i).toNat)
      case atStart => exact ⟨0, by omega, rfl, fun j s hj => by omega, GO.out⟩
      case round =>
        obtain ⟨k, hk, rfl, HE, G⟩ := hrel
        have d0 := G.out.cell c0
        have d1 := G.out.cell c1
        have HKr := Lib.hid (HK.out.gw G.out)
        by_cases hlt : k < L.length
        · as_aux_lemma =>
          obtain ⟨⟨op, a⟩, hx⟩ : ∃ x, L[k]? = some x := ⟨_, List.getElem?_eq_getElem hlt⟩
          obtain ⟨g, off, rfl, hg, hc0, hc1⟩ := HKr.out.inst k _ hx
          have F := rmay_any (op, a)
          have HXX := Lib.hid hx
          clear hx
          cases hok : okI (op, a) with
          | false =>
            have HX := Lib.hid (fault_5 (n := L.length) (m := N.length) (i := k) hok)
            have HI : Hid (Is L N k 5 []) := by
              have := Is.single HS.out HNM.out HXX.out (by rw [HX.out]; decide) HE.out
              rw [HX.out] at this
              exact this
            rw [hok] at F
            clear hok HE
            go_wp2_with (go_at_call 18; with_reducible refine (F _).mono ?_; rintro e w' ⟨rfl, G1⟩)
            go_ret3
            exact chk_post HI.out (HG.out.trans (G.out.trans ((Gw.alloc _ _).trans (Grown.gw G1))))
          | true =>
            rw [hok] at F
            have HOK := Lib.hid hok
            clear hok
            go_upto_region 15 with (go_at_call 18; with_reducible refine (F _).mono ?_; rintro e w' ⟨rfl, G1⟩)
            obtain ⟨q1, q2, q3, q4⟩ := okI_bd HOK.out
            have e8 := (Grown.gw G1).cell (two_cells (heap_alloc_new wr (.cells #[.int .i64 op, .int .i64 a] 38))).1
            have e9 := (Grown.gw G1).cell (two_cells (heap_alloc_new wr (.cells #[.int .i64 op, .int .i64 a] 38))).2.1
            have G2 := Lib.hid (G.out.trans ((Gw.alloc wr (.cells #[.int .i64 op, .int .i64 a] 38)).trans (Grown.gw G1)))
            have F2 := rnames_any op a w' q3 q4
            clear F G1
            go_wp2_with (go_at_call 19; with_reducible refine F2.mono ?_; rintro e w2 ⟨v, rfl, R⟩)
            obtain ⟨A2, c2, rfl, hcells⟩ := R.shape
            have G3 := Lib.hid (G2.out.trans R.gw)
            have HR := Lib.hid R.gw
            have HC2 := Lib.hid hcells
            have hl2' := namesOf_len (op, a)
            clear hcells R F2 d0 d1
            go_loopw [10] (fun i wr' => ∃ j : Nat, j ≤ (namesOf (op, a)).length ∧ i = .int .i64 j ∧ Hid (∀ q c, q < j → (namesOf (op, a))[q]? = some c → c < N.length) ∧ Hid (Gw w2 wr')) (fun i _ => (namesOf (op, a)).length - (intOf i).toNat)
            case atStart => exact ⟨0, by omega, rfl, fun j s hj => by omega, Gw.refl _⟩
            case round =>
              obtain ⟨j, hj, rfl, HJ, G4⟩ := hrel
              have d1 := (G3.out.trans G4.out).cell c1
              by_cases hlt2 : j < (namesOf (op, a)).length
              · as_aux_lemma =>
                obtain ⟨c, hc⟩ : ∃ c, (namesOf (op, a))[j]? = some c := ⟨_, List.getElem?_eq_getElem hlt2⟩
                obtain ⟨g2, rfl, hcc⟩ := HC2.out j c hc
                have dc := G4.out.cell hcc
                have HCC := Lib.hid hc
                clear hc
                by_cases hcm : c < N.length
                · have f1 : decide ((N.length : Int) ≤ c) = false := decide_eq_false (by omega)
                  have HJ2 : Hid (∀ q c, q < j + 1 → (namesOf (op, a))[q]? = some c → c < N.length) := fun q c' hq hc' => by
                    by_cases e : q = j
                    · subst e; rw [HCC.out] at hc'; injection hc' with hc'; subst hc'; exact hcm
                    · exact HJ.out q c' (by omega) hc'
                  clear hcm HJ
                  go_upto_region 19 with fail
                  go_quiet (fail)
                  go_wp2
                  go_roundw
                  case rel => exact ⟨j + 1, by omega, by go_num, HJ2, G4.out.drewN _⟩
                  case measure => simp [intOf]; omega
                · have f1 : decide ((N.length : Int) ≤ c) = true := decide_eq_true (by omega)
                  have HX := Lib.hid (fault_10 (n := L.length) (m := N.length) (i := k) HOK.out (List.mem_of_getElem? HCC.out) (by omega))
                  have HI : Hid (Is L N k 10 []) := by
                    have := Is.single HS.out HNM.out HXX.out (by rw [HX.out]; decide) HE.out
                    rw [HX.out] at this
                    exact this
                  clear hcm HJ
                  go_upto_region 19 with fail
                  go_quiet (fail)
                  go_wp2
                  go_ret3
                  exact chk_post HI.out (HG.out.trans (G3.out.trans (G4.out.drewN _)))
              · obtain rfl : j = (namesOf (op, a)).length := by omega
                have e8' := (HR.out.trans G4.out).cell e8
                have e9' := (HR.out.trans G4.out).cell e9
                have hnm : ∀ c ∈ namesOf (op, a), c < N.length := fun c hc => by
                  obtain ⟨q, hq⟩ := List.getElem?_of_mem hc
                  exact HJ.out q c (List.getElem?_eq_some_iff.1 hq).1 hq
                have HFE := Lib.hid (fault_eq (n := L.length) (m := N.length) (i := k) HOK.out hnm)
                have i0w : IntKind.i64.wrap ((L.length : Int) - 1) = (L.length : Int) - 1 := wrap_in (by omega) (by omega)
                clear hnm HJ hlt2 hj
                have HZ : Hid (fault L.length N.length k (op, a) = 0 → ∀ j y, j < k + 1 → L[j]? = some y → fault L.length N.length j y = 0) := fun h0 j y hj hy => by
                  by_cases e : j = k
                  · subst e; rw [HXX.out] at hy; injection hy with hy; subst hy; exact h0
                  · exact HE.out j y (by omega) hy
                have HF : Hid (∀ c : Int, fault L.length N.length k (op, a) = c → c ≠ 0 → Is L N k c []) := fun c hc h => by
                  have := Is.single HS.out HNM.out HXX.out (by rw [hc]; exact h) HE.out
                  rw [hc] at this
                  exact this
                clear HE
                by_cases o22 : op = 22
                · as_aux_lemma =>
                  subst o22
                  by_cases hb : (L.length : Int) ≤ a
                  · have f1 : decide ((L.length : Int) ≤ a) = true := decide_eq_true hb
                    have HI := Lib.hid (HF.out 6 (by rw [HFE.out, if_pos ⟨.inl rfl, hb⟩]) (by decide))
                    clear hb
                    go_wp2
                    go_ret3
                    exact chk_post HI.out (HG.out.trans (G3.out.trans G4.out))
                  · have f1 : decide ((L.length : Int) ≤ a) = false := decide_eq_false hb
                    have HE3 := Lib.hid (HZ.out (by rw [HFE.out, if_neg (fun k => hb k.2), if_neg (fun k => k.1.1 rfl)]))
                    clear hb
                    go_wp2
                    go_roundw
                    case rel => exact ⟨k + 1, by omega, by go_num, HE3.out, G3.out.trans G4.out⟩
                    case measure => simp [intOf]; omega
                by_cases o23 : op = 23
                · as_aux_lemma =>
                  subst o23
                  by_cases hb : (L.length : Int) ≤ a
                  · have f1 : decide ((L.length : Int) ≤ a) = true := decide_eq_true hb
                    have HI := Lib.hid (HF.out 6 (by rw [HFE.out, if_pos ⟨.inr rfl, hb⟩]) (by decide))
                    clear hb
                    go_wp2
                    go_ret3
                    exact chk_post HI.out (HG.out.trans (G3.out.trans G4.out))
                  · have f1 : decide ((L.length : Int) ≤ a) = false := decide_eq_false hb
                    by_cases hend : k + 1 = L.length
                    · have f2 : ((k : Int) == (L.length : Int) - 1) = true := by simp; omega
                      have HI := Lib.hid (HF.out 8 (by rw [HFE.out, if_neg (fun k => hb k.2), if_pos ⟨⟨(show (23 : Int) ≠ 22 by decide), (show (23 : Int) ≠ 26 by decide)⟩, hend⟩]) (by decide))
                      clear hb hend
                      go_wp2
                      go_ret3
                      exact chk_post HI.out (HG.out.trans (G3.out.trans G4.out))
                    · have f2 : ((k : Int) == (L.length : Int) - 1) = false := by simp; omega
                      have HE3 := Lib.hid (HZ.out (by rw [HFE.out, if_neg (fun k => hb k.2), if_neg (fun k => hend k.2)]))
                      clear hb hend
                      go_wp2
                      go_roundw
                      case rel => exact ⟨k + 1, by omega, by go_num, HE3.out, G3.out.trans G4.out⟩
                      case measure => simp [intOf]; omega
                by_cases o26 : op = 26
                · as_aux_lemma =>
                  subst o26
                  have HE3 := Lib.hid (HZ.out (by rw [HFE.out, if_neg (fun k => by rcases k.1 with k | k <;> cases k), if_neg (fun k => k.1.2 rfl)]))
                  go_wp2
                  go_roundw
                  case rel => exact ⟨k + 1, by omega, by go_num, HE3.out, G3.out.trans G4.out⟩
                  case measure => simp [intOf]; omega
                as_aux_lemma =>
                have g1 : (op == 22) = false := by simp [o22]
                have g2 : (op == 23) = false := by simp [o23]
                have g3 : (op != 22) = true := by simp [o22]
                have g4 : (op != 26) = true := by simp [o26]
                by_cases hend : k + 1 = L.length
                · have f2 : ((k : Int) == (L.length : Int) - 1) = true := by simp; omega
                  have HI := Lib.hid (HF.out 8 (by rw [HFE.out, if_neg (fun k => by rcases k.1 with k | k; · exact o22 k
                                                                                    exact o23 k), if_pos ⟨⟨o22, o26⟩, hend⟩]) (by decide))
                  clear hend o22 o23 o26
                  go_wp2
                  go_ret3
                  exact chk_post HI.out (HG.out.trans (G3.out.trans G4.out))
                · have f2 : ((k : Int) == (L.length : Int) - 1) = false := by simp; omega
                  have HE3 := Lib.hid (HZ.out (by rw [HFE.out, if_neg (fun k => by rcases k.1 with k | k; · exact o22 k
                                                                                   exact o23 k), if_neg (fun k => hend k.2)]))
                  clear hend o22 o23 o26
                  go_wp2
                  go_roundw
                  case rel => exact ⟨k + 1, by omega, by go_num, HE3.out, G3.out.trans G4.out⟩
                  case measure => simp [intOf]; omega
        · obtain rfl : k = L.length := by omega
          have HSI : Hid (Single L N) := fun j y hy => HE.out j y (List.getElem?_eq_some_iff.1 hy).1 hy
          clear HE hlt hk
          go_upto_region 25 with fail
          have hmkO : ∀ w, (Instr.makeSlice 53 (.int .i64 (L.length : Int)) (.int .i64 (L.length : Int))).run Try.prog w = .ok (.slice (some ⟨w.heap.size, 0, none⟩) L.length L.length) (w.alloc (.cells (madeCells #[.slice none 0 0] L.length) 44)) := fun w => run_make_row' (P := Try.prog) 53 44 (.slice none 0 0) 24 Try.underlying53 (by kernel_rfl) rfl .i64 .i64 L.length (by omega) (by omega) w
          have hmkB : ∀ w, (Instr.makeSlice 44 (.int .i64 17) (.int .i64 17)).run Try.prog w = .ok (.slice (some ⟨w.heap.size, 0, none⟩) 17 17) (w.alloc (.cells (madeCells #[.bool false] 17) 4)) := fun w => run_make_row' (P := Try.prog) 44 4 (.bool false) 1 Try.underlying44 (by kernel_rfl) rfl .i64 .i64 17 (by omega) (by omega) w
          have HMO := Lib.hid (Mat.start G.out L.length)
          have hs1 : (wr.alloc (.cells (madeCells #[.slice none 0 0] L.length) 44)).heap.size = wr.heap.size + 1 := size_alloc _ _
          go_upto_region 26 with fail
          generalize wr.alloc (.cells (madeCells #[.slice none 0 0] L.length) 44) = wm at *
          generalize hr : wr.heap.size = r at *
          clear hr hmkO
          go_wp2
          go_loopw [12] (fun i w' => ∃ k : Nat, k ≤ L.length ∧ i = .int .i64 k ∧ Hid (Mat W1 w' r L.length k (fun _ _ => false)) ∧ w'.heap.size = r + 1 + k) (fun i _ => L.length - (intOf i).toNat)
          case atStart => exact ⟨0, by omega, rfl, HMO.out, hs1⟩
          case round =>
            obtain ⟨k, hk, rfl, M, hsz⟩ := hrel
            by_cases hlt : k < L.length
            · have MA := Lib.hid (M.out.add hlt hsz)
              have M1 := M.out.on (Gw.alloc wr (.cells (madeCells #[.bool false] 17) 4))
              have co : (wr.alloc (.cells (madeCells #[.bool false] 17) 4)).cell? ⟨r, k, none⟩ = some (.slice none 0 0) := by rw [M1.out.cell, outs_get hlt, if_neg (by omega)]
              have cz : (wr.alloc (.cells (madeCells #[.bool false] 17) 4)).frozen? ⟨r, k, none⟩ = false := M1.out.free k
              have hs2 : ((wr.alloc (.cells (madeCells #[.bool false] 17) 4)).setCell ⟨r, k, none⟩ (.slice (some ⟨r + 1 + k, 0, none⟩) 17 17)).heap.size = r + 1 + (k + 1) := by simp; omega
              have HS2 := Lib.hid hs2
              clear M1 hs2
              go_wp2
              go_roundw
              case rel => exact ⟨k + 1, by omega, by go_num, MA.out, HS2.out⟩
              case measure => simp [intOf]; omega
            · obtain rfl : k = L.length := by omega
              clear hlt hk HMO hmkB hs1 hsz
              have M := M.out
              have co0 := M.o (i := 0) (by omega)
              have cc0 := M.c (i := 0) (b := 0) (by omega) (by omega)
              have cz0 := M.z (i := 0) (b := 0) (by omega)
              simp only [Nat.add_zero] at co0 cc0 cz0
              have HM0 := Lib.hid (M.mark (i := 0) (b := 0) (by omega) (by omega))
              clear M
              go_upto_region 31 with fail
              clear co0 cc0 cz0
              have HM1 : Hid (Mat W1 (wr.setCell ⟨r + 1, 0, none⟩ (.bool true)) r L.length L.length (mrk (fun _ _ => false) 0 0)) := HM0.out
              have HS1 : Hid (Sound L (mrk (fun _ _ => false) 0 0)) := ⟨mk_self _ _ _, fun i h hf => by
                rcases mk_is hf with e | ⟨rfl, rfl⟩
                · cases e
                · exact .zero⟩
              generalize wr.setCell ⟨r + 1, 0, none⟩ (.bool true) = wm2 at *
              clear HM0
              generalize mrk (fun _ _ => false) 0 0 = fz at *
              go_wp2
              go_loopg [13] (left fz L.length + 1) (fun gg c w' => ∃ (f : Nat → Nat → Bool) (cb : Bool), c = .bool cb ∧ Hid (Mat W1 w' r L.length L.length f) ∧ Hid (Sound L f) ∧ left f L.length + (if cb = true then 1 else 0) ≤ gg ∧ Hid (cb = false → ∀ i h, i < L.length → h ≤ 16 → Cl L f i h))
              case atStart => exact ⟨fz, true, rfl, HM1.out, HS1.out, by simp, fun k => by cases k⟩
              case round =>
                obtain ⟨f, cb, rfl, M, SO, hgg, CLO⟩ := hrel
                clear HM1 HS1
                cases cb with
                | true =>
                  as_aux_lemma =>
                  have hgg' : left f L.length + 1 ≤ gk := by simpa using hgg
                  have FX0 := Lib.hid (Fx.start (n := L.length) SO.out)
                  clear hgg CLO SO
                  go_wp2
                  go_loopw [13, 14] (fun c i w' => ∃ (f' : Nat → Nat → Bool) (cb : Bool) (k : Nat), k ≤ L.length ∧ c = .bool cb ∧ i = .int .i64 k ∧ Hid (Mat W1 w' r L.length L.length f') ∧ Hid (Fx L L.length f f' cb k 0)) (fun _ i _ => L.length - (intOf i).toNat)
                  case atStart => exact ⟨f, false, 0, by omega, rfl, rfl, M.out, FX0.out⟩
                  case round =>
                    obtain ⟨f', cb, k, hk, rfl, rfl, M', FX⟩ := hrel
                    clear M FX0
                    by_cases hlt : k < L.length
                    · go_wp2
                      go_loopw [13, 15] (fun c h w' => ∃ (f' : Nat → Nat → Bool) (cb : Bool) (b : Nat), b ≤ 17 ∧ c = .bool cb ∧ h = .int .i64 b ∧ Hid (Mat W1 w' r L.length L.length f') ∧ Hid (Fx L L.length f f' cb k b)) (fun _ i _ => 17 - (intOf i).toNat)
                      case atStart => exact ⟨f', cb, 0, by omega, rfl, rfl, M'.out, FX.out⟩
                      case round =>
                        obtain ⟨f2, cb2, b, hb, rfl, rfl, M2, FX2⟩ := hrel
                        clear M' FX
                        by_cases hb17 : b < 17
                        · obtain ⟨⟨op, a⟩, hx⟩ : ∃ x, L[k]? = some x := ⟨_, List.getElem?_eq_getElem hlt⟩
                          have HXX := Lib.hid hx
                          obtain ⟨q1, q2, q3⟩ := fault_zero (HSI.out k _ hx)
                          have HJ := Lib.hid q2
                          have HN := Lib.hid q3
                          obtain ⟨p1, p2, p3, p4⟩ := okI_bd q1
                          simp only at p1 p2 p3 p4
                          obtain ⟨o, rfl⟩ : ∃ o : Nat, op = o := ⟨op.toNat, by omega⟩
                          obtain ⟨A1, rfl⟩ : ∃ A1 : Nat, a = A1 := ⟨a.toNat, by omega⟩
                          have d0 := M2.out.gw.cell c0
                          have HK2 := Lib.hid (HK.out.gw M2.out.gw)
                          obtain ⟨g, off, rfl, hg, hc0, hc1⟩ := HK2.out.inst k _ hx
                          have co := M2.out.o hlt
                          have cc := M2.out.c hlt hb17
                          clear hx q1 q2 q3
                          cases hf : f2 k b with
                          | false =>
                            rw [hf] at cc
                            have FX3 := Lib.hid (FX2.out.skip (cl_un hf))
                            clear FX2 hf
                            go_wp2
                            go_roundw
                            case rel => exact ⟨f2, cb2, b + 1, by omega, rfl, by go_num, M2.out, FX3.out⟩
                            case measure => simp [intOf]; omega
                          | true =>
                            rw [hf] at cc
                            have RE := Lib.hid (FX2.out.s.2 k b hf)
                            have F := rrow_yes o (by omega) (by omega)
                            obtain ⟨t1, t2, t3, t4⟩ := tk_gv (o := o) (by omega)
                            have HT : Hid (tkx ((o : Int), (A1 : Int)) = tk o ∧ gvx ((o : Int), (A1 : Int)) = gv o) := ⟨by simp [tkx], by simp [gvx]⟩
                            generalize nm o = n1 at *
                            generalize hT : tk o = T at *
                            generalize hV : gv o = V at *
                            generalize ms o = n4 at *
                            clear hT hV hf
                            go_upto_region 42 with (go_at_call 15; with_reducible refine (F _).mono ?_; rintro e w3 ⟨rfl, G1⟩)
                            have M3 := Lib.hid (M2.out.on (Grown.gw G1))
                            clear F G1 M2 d0 hc0 hc1 co cc HK2
                            have d0 := M3.out.gw.cell c0
                            have HK2 := Lib.hid (HK.out.gw M3.out.gw)
                            by_cases hA : (b : Int) < T
                            · have f1 : decide ((b : Int) < T) = true := decide_eq_true hA
                              have FX3 := Lib.hid (FX2.out.skip (cl_of HXX.out (fun _ hs => absurd hs.1 (by rw [HT.out.1]; omega))))
                              clear FX2 hA
                              go_wp2
                              go_roundw
                              case rel => exact ⟨f2, cb2, b + 1, by omega, rfl, by go_num, M3.out, FX3.out⟩
                              case measure => simp [intOf]; omega
                            have f1 : decide ((b : Int) < T) = false := decide_eq_false hA
                            have w1 : IntKind.i64.wrap ((b : Int) - T) = (b : Int) - T := wrap_in (by omega) (by omega)
                            by_cases hB : 16 < (b : Int) - T + V
                            · have f2' : decide (16 < (b : Int) - T + V) = true := decide_eq_true hB
                              have w2 : IntKind.i64.wrap ((b : Int) - T + V) = (b : Int) - T + V := wrap_in (by omega) (by omega)
                              have FX3 := Lib.hid (FX2.out.skip (cl_of HXX.out (fun _ hs => absurd hs.2 (by rw [HT.out.1, HT.out.2]; omega))))
                              clear FX2 hA hB
                              go_wp2
                              go_roundw
                              case rel => exact ⟨f2, cb2, b + 1, by omega, rfl, by go_num, M3.out, FX3.out⟩
                              case measure => simp [intOf]; omega
                            obtain ⟨t, ht⟩ : ∃ t : Nat, (b : Int) - T + V = t := ⟨((b : Int) - T + V).toNat, by omega⟩
                            have w2 : IntKind.i64.wrap ((b : Int) - T + V) = (t : Int) := by rw [← ht]; exact wrap_in (by omega) (by omega)
                            have f2' : decide (16 < (t : Int)) = false := decide_eq_false (by omega)
                            have ht17 : t < 17 := by omega
                            have HSO : Hid (stepOk ((o : Int), (A1 : Int)) b ∧ toH ((o : Int), (A1 : Int)) b = t) := ⟨⟨by rw [HT.out.1]; omega, by rw [HT.out.1, HT.out.2]; omega⟩, by unfold toH; rw [HT.out.1, HT.out.2]; omega⟩
                            clear hA hB ht
                            go_upto_region 44 with fail
                            clear w1 w2 f1 f2' t1 t2 t3 t4
                            -- LEAF
                            have d0 := M3.out.gw.cell c0
                            obtain ⟨g', off', e', hg', hc0, hc1⟩ := (HK.out.gw M3.out.gw).inst k _ HXX.out
                            injection e' with e'
                            injection e' with e1 e2
                            subst e1
                            subst e2
                            by_cases o22 : o = 22
                            · as_aux_lemma =>
                              subst o22
                              have hA1 : A1 < L.length := by have := HJ.out (.inl rfl); simp at this; omega
                              have RJ : Hid (Reach L A1 t) := by
                                have := Reach.jump RE.out HXX.out HSO.out.1 (.inl rfl)
                                rw [HSO.out.2] at this
                                show Reach L A1 t
                                simpa using this
                              have co2 := M3.out.o hA1
                              have cc2 := M3.out.c hA1 ht17
                              cases hq : f2 A1 t with
                              | true =>
                                rw [hq] at cc2
                                have FX4 := Lib.hid (FX2.out.skip (cl_of HXX.out (fun _ _ => by rw [HSO.out.2]; exact ⟨fun _ => by simpa using hq, fun h => absurd rfl h⟩)))
                                clear hq FX2
                                go_wp2
                                go_roundw
                                case rel => exact ⟨f2, cb2, b + 1, by omega, rfl, by go_num, M3.out, FX4.out⟩
                                case measure => simp [intOf]; omega
                              | false =>
                                rw [hq] at cc2
                                have cz2 := M3.out.z (b := t) hA1
                                have M4 := Lib.hid (M3.out.mark hA1 ht17)
                                have FX4 := Lib.hid (FX2.out.set (i' := k) (h' := b + 1) hA1 ht17 hq RJ.out)
                                clear hq
                                go_upto_region 47 with fail
                                clear co2 cc2 cz2 d0 hc0 hc1 M3
                                generalize w3.setCell ⟨r + 1 + A1, t, none⟩ (.bool true) = w4 at *
                                obtain ⟨f3, hf3⟩ : ∃ f3, f3 = mrk f2 A1 t := ⟨_, rfl⟩
                                rw [← hf3] at M4 FX4
                                clear hf3
                                have d0 := M4.out.gw.cell c0
                                obtain ⟨g', off', e', hg', hc0, hc1⟩ := (HK.out.gw M4.out.gw).inst k _ HXX.out
                                injection e' with e'
                                injection e' with e1 e2
                                subst e1
                                subst e2
                                go_wp2
                                go_roundw
                                case rel => exact ⟨f3, true, b + 1, by omega, rfl, by go_num, M4.out, FX4.out⟩
                                case measure => simp [intOf]; omega
                            by_cases o23 : o = 23
                            · as_aux_lemma =>
                              subst o23
                              have hA1 : A1 < L.length := by have := HJ.out (.inr rfl); simp at this; omega
                              have RJ : Hid (Reach L A1 t) := by
                                have := Reach.jump RE.out HXX.out HSO.out.1 (.inr rfl)
                                rw [HSO.out.2] at this
                                show Reach L A1 t
                                simpa using this
                              have co2 := M3.out.o hA1
                              have cc2 := M3.out.c hA1 ht17
                              obtain ⟨k1, hk1⟩ : ∃ k1, k1 = k + 1 := ⟨_, rfl⟩
                              have hk2 : k + 1 ≠ L.length := HN.out (show (23 : Int) ≠ 22 by decide) (show (23 : Int) ≠ 26 by decide)
                              have wk : IntKind.i64.wrap ((k : Int) + 1) = (k1 : Int) := by rw [hk1]; exact wrap_in (by omega) (by omega)
                              have RN : Hid (Reach L k1 t) := by
                                have := Reach.next RE.out HXX.out HSO.out.1 (show (23 : Int) ≠ 22 by decide) (show (23 : Int) ≠ 26 by decide)
                                rw [HSO.out.2, ← hk1] at this
                                exact this
                              have HK1 := Lib.hid hk1
                              clear hk1
                              cases hq : f2 A1 t with
                              | true =>
                                rw [hq] at cc2
                                have hk1n : k1 < L.length := by have := HK1.out; omega
                                have co3 := M3.out.o hk1n
                                have cc3 := M3.out.c hk1n ht17
                                cases hq3 : f2 k1 t with
                                | true =>
                                  rw [hq3] at cc3
                                  have FX4 := Lib.hid (FX2.out.skip (cl_of HXX.out (fun _ _ => by rw [HSO.out.2, ← HK1.out]; exact ⟨fun _ => by simpa using hq, fun _ _ => hq3⟩)))
                                  clear hq3
                                  go_wp2
                                  go_roundw
                                  case rel => exact ⟨f2, cb2, b + 1, by omega, rfl, by go_num, M3.out, FX4.out⟩
                                  case measure => simp [intOf]; omega
                                | false =>
                                  rw [hq3] at cc3
                                  have cz3 := M3.out.z (b := t) hk1n
                                  have M9 := Lib.hid (M3.out.mark hk1n ht17)
                                  have FX9 := Lib.hid (FX2.out.set (i' := k) (h' := b + 1) hk1n ht17 hq3 RN.out)
                                  clear hq3
                                  go_wp2
                                  go_roundw
                                  case rel => exact ⟨mrk f2 k1 t, true, b + 1, by omega, rfl, by go_num, M9.out, FX9.out⟩
                                  case measure => simp [intOf]; omega
                              | false =>
                                rw [hq] at cc2
                                have cz2 := M3.out.z (b := t) hA1
                                have M4 := Lib.hid (M3.out.mark hA1 ht17)
                                have FX4 := Lib.hid (FX2.out.set (i' := k) (h' := b + 1) hA1 ht17 hq RJ.out)
                                clear hq
                                go_upto_region 47 with fail
                                clear co2 cc2 cz2 d0 hc0 hc1 M3
                                generalize w3.setCell ⟨r + 1 + A1, t, none⟩ (.bool true) = w4 at *
                                obtain ⟨f3, hf3⟩ : ∃ f3, f3 = mrk f2 A1 t := ⟨_, rfl⟩
                                rw [← hf3] at M4 FX4
                                clear hf3
                                have d0 := M4.out.gw.cell c0
                                obtain ⟨g', off', e', hg', hc0, hc1⟩ := (HK.out.gw M4.out.gw).inst k _ HXX.out
                                injection e' with e'
                                injection e' with e1 e2
                                subst e1
                                subst e2
                                have hk1n : k1 < L.length := by have := HK1.out; omega
                                have co3 := M4.out.o hk1n
                                have cc3 := M4.out.c hk1n ht17
                                cases hq3 : f3 k1 t with
                                | true =>
                                  rw [hq3] at cc3
                                  clear hq3
                                  go_wp2
                                  go_roundw
                                  case rel => exact ⟨f3, true, b + 1, by omega, rfl, by go_num, M4.out, FX4.out⟩
                                  case measure => simp [intOf]; omega
                                | false =>
                                  rw [hq3] at cc3
                                  have cz3 := M4.out.z (b := t) hk1n
                                  have M9 := Lib.hid (M4.out.mark hk1n ht17)
                                  have FX9 := Lib.hid (FX4.out.set (i' := k) (h' := b + 1) hk1n ht17 hq3 RN.out)
                                  clear hq3
                                  go_wp2
                                  go_roundw
                                  case rel => exact ⟨mrk f3 k1 t, true, b + 1, by omega, rfl, by go_num, M9.out, FX9.out⟩
                                  case measure => simp [intOf]; omega
                            by_cases o26 : o = 26
                            · as_aux_lemma =>
                              subst o26
                              have FX4 := Lib.hid (FX2.out.skip (cl_of HXX.out (fun _ _ => ⟨(fun h => by rcases h with h | h <;> cases h), fun _ h => absurd rfl h⟩)))
                              clear FX2
                              go_wp2
                              go_roundw
                              case rel => exact ⟨f2, cb2, b + 1, by omega, rfl, by go_num, M3.out, FX4.out⟩
                              case measure => simp [intOf]; omega
                            as_aux_lemma =>
                            have g1 : ((o : Int) == 22) = false := by simp; omega
                            have g2 : ((o : Int) == 23) = false := by simp; omega
                            have g3 : ((o : Int) != 22) = true := by simp; omega
                            have g4 : ((o : Int) != 26) = true := by simp; omega
                            have n22 : (o : Int) ≠ 22 := by omega
                            have n26 : (o : Int) ≠ 26 := by omega
                            have n23 : (o : Int) ≠ 23 := by omega
                            obtain ⟨k1, hk1⟩ : ∃ k1, k1 = k + 1 := ⟨_, rfl⟩
                            have hk2 : k + 1 ≠ L.length := HN.out n22 n26
                            have wk : IntKind.i64.wrap ((k : Int) + 1) = (k1 : Int) := by rw [hk1]; exact wrap_in (by omega) (by omega)
                            have RN : Hid (Reach L k1 t) := by
                              have := Reach.next RE.out HXX.out HSO.out.1 n22 n26
                              rw [HSO.out.2, ← hk1] at this
                              exact this
                            have HK1 := Lib.hid hk1
                            clear hk1
                            have HNJ : Hid (¬ ((o : Int) = 22 ∨ (o : Int) = 23)) := fun h => h.elim n22 n23
                            clear n22 n26 n23 o22 o23 o26
                            have hk1n : k1 < L.length := by have := HK1.out; omega
                            have co3 := M3.out.o hk1n
                            have cc3 := M3.out.c hk1n ht17
                            cases hq3 : f2 k1 t with
                            | true =>
                              rw [hq3] at cc3
                              have FX4 := Lib.hid (FX2.out.skip (cl_of HXX.out (fun _ _ => by rw [HSO.out.2, ← HK1.out]; exact ⟨fun h => absurd h HNJ.out, fun _ _ => hq3⟩)))
                              clear hq3
                              go_wp2
                              go_roundw
                              case rel => exact ⟨f2, cb2, b + 1, by omega, rfl, by go_num, M3.out, FX4.out⟩
                              case measure => simp [intOf]; omega
                            | false =>
                              rw [hq3] at cc3
                              have cz3 := M3.out.z (b := t) hk1n
                              have M9 := Lib.hid (M3.out.mark hk1n ht17)
                              have FX9 := Lib.hid (FX2.out.set (i' := k) (h' := b + 1) hk1n ht17 hq3 RN.out)
                              clear hq3
                              go_wp2
                              go_roundw
                              case rel => exact ⟨mrk f2 k1 t, true, b + 1, by omega, rfl, by go_num, M9.out, FX9.out⟩
                              case measure => simp [intOf]; omega
                            -- ENDLEAF

                        · obtain rfl : b = 17 := by omega
                          have FX3 := Lib.hid FX2.out.row
                          clear FX2
                          go_wp2
                          go_roundw
                          case rel => exact ⟨f2, cb2, k + 1, by omega, rfl, by go_num, M2.out, FX3.out⟩
                          case measure => simp [intOf]; omega
                    · obtain rfl : k = L.length := by omega
                      have HE : Hid (left f' L.length + (if cb = true then 1 else 0) ≤ left f L.length ∧ (cb = false → ∀ i h, i < L.length → h ≤ 16 → Cl L f' i h)) := by
                        cases cb with
                        | true => exact ⟨by have := FX.out.yes rfl; simp; omega, fun e => by cases e⟩
                        | false => exact ⟨by rw [(FX.out.no rfl).1]; simp, fun _ i h hi hh => (FX.out.no rfl).2.1 i h hi hh⟩
                      have HSO := Lib.hid FX.out.s
                      clear FX
                      go_wp2
                      go_roundg (left f L.length)
                      case rel => exact ⟨f', cb, rfl, M'.out, HSO.out, HE.out.1, HE.out.2⟩
                      all_goals omega
                | false =>
                  as_aux_lemma =>
                  have HR : Hid (∀ i h, f i h = true ↔ Reach L i h) := closed_is SO.out (CLO.out rfl)
                  have hmkI : ∀ w, (Instr.makeSlice 31 (.int .i64 (L.length : Int)) (.int .i64 (L.length : Int))).run Try.prog w = .ok (.slice (some ⟨w.heap.size, 0, none⟩) L.length L.length) (w.alloc (.cells (madeCells #[.int .i64 0] L.length) 3)) := fun w => run_make_row' (P := Try.prog) 31 3 (.int .i64 0) 8 Try.underlying31 (by kernel_rfl) rfl .i64 .i64 L.length (by omega) (by omega) w
                  have hge : r + 1 + L.length ≤ wr.heap.size := by have := (M.out.inn (L.length - 1) (by omega)).lt; omega
                  have M5 := Lib.hid (M.out.on (Gw.alloc wr (.cells (madeCells #[.int .i64 0] L.length) 3)))
                  have H5 : Hid (Has (wr.alloc (.cells (madeCells #[.int .i64 0] L.length) 3)) wr.heap.size 3 (nums L.length (fun _ => 0))) := by have := Has.new wr 3 (madeCells #[.int .i64 0] L.length); rw [made_nums] at this ⊢; exact this
                  clear CLO SO M hgg
                  go_upto_region 50 with fail
                  generalize wr.alloc (.cells (madeCells #[.int .i64 0] L.length) 3) = wh at *
                  generalize wr.heap.size = hb at *
                  clear hmkI
                  go_wp2
                  go_loopw [23] (fun i w' => ∃ (k : Nat) (g : Nat → Int), k ≤ L.length ∧ i = .int .i64 k ∧ Hid (Mat W1 w' r L.length L.length f) ∧ Hid (Has w' hb 3 (nums L.length g)) ∧ Hid (∀ j, j < k → Good L g j)) (fun i _ => L.length - (intOf i).toNat)
                  case atStart => exact ⟨0, _, by omega, rfl, M5.out, H5.out, fun j hj => by omega⟩
                  case round =>
                    obtain ⟨k, gg, hk, rfl, M6, H6, GD⟩ := hrel
                    clear M5 H5
                    by_cases hlt : k < L.length
                    · obtain ⟨⟨op, a⟩, hx⟩ : ∃ x, L[k]? = some x := ⟨_, List.getElem?_eq_getElem hlt⟩
                      have HXX := Lib.hid hx
                      obtain ⟨p1, p2, p3, p4⟩ := okI_bd (fault_zero (HSI.out k _ hx)).1
                      simp only at p1 p2 p3 p4
                      obtain ⟨o, rfl⟩ : ∃ o : Nat, op = o := ⟨op.toNat, by omega⟩
                      have ch : wr.cell? ⟨hb, k, none⟩ = some (.int .i64 (gg k)) := by rw [H6.out.cell, nums_get _ hlt]
                      have cz : wr.frozen? ⟨hb, k, none⟩ = false := H6.out.free k
                      have M7 := Lib.hid (M6.out.but (But.set hb wr k (.int .i64 (-1))) hge)
                      have H7 : Hid (Has (wr.setCell ⟨hb, k, none⟩ (.int .i64 (-1))) hb 3 (nums L.length (setg gg k (-1)))) := by have := H6.out.put k (.int .i64 (-1)); rw [nums_set _ _ hlt] at this; exact this
                      go_upto_region 54 with fail
                      clear ch cz M6 H6 hx
                      generalize wr.setCell ⟨hb, k, none⟩ (.int .i64 (-1)) = w2 at *
                      have d0 := M7.out.gw.cell c0
                      obtain ⟨g, off, rfl, hg, hc0, hc1⟩ := (HK.out.gw M7.out.gw).inst k _ HXX.out
                      have F := rrow_yes o (by omega) (by omega)
                      obtain ⟨t1, t2, t3, t4⟩ := tk_gv (o := o) (by omega)
                      have HT : Hid (tkx ((o : Int), a) = tk o ∧ gvx ((o : Int), a) = gv o) := ⟨by simp [tkx], by simp [gvx]⟩
                      generalize nm o = n1 at *
                      generalize hT : tk o = T at *
                      generalize hV : gv o = V at *
                      generalize ms o = n4 at *
                      clear hT hV
                      go_upto_region 55 with (go_at_call 15; with_reducible refine (F _).mono ?_; rintro e w3 ⟨rfl, G1⟩)
                      have M8 := Lib.hid (M7.out.on (Grown.gw G1))
                      have H8 := Lib.hid (H7.out.on (Grown.gw G1))
                      clear F G1 M7 H7 d0 hc0 hc1
                      go_wp2
                      go_loopw [29] (fun h w' => ∃ (b : Nat) (c : Int), b ≤ 17 ∧ h = .int .i64 b ∧ Hid (Mat W1 w' r L.length L.length f) ∧ Hid (Has w' hb 3 (nums L.length (setg gg k c))) ∧ Hid (Part L k b ((o : Int), a) c)) (fun i _ => 17 - (intOf i).toNat)
                      case atStart => exact ⟨0, -1, by omega, rfl, M8.out, H8.out, Part.start⟩
                      case round =>
                        obtain ⟨b, c, hb17, rfl, M9, H9, PT⟩ := hrel
                        clear M8 H8
                        by_cases hb2 : b < 17
                        · have co := M9.out.o hlt
                          have cc := M9.out.c hlt hb2
                          cases hf : f k b with
                          | false =>
                            rw [hf] at cc
                            have PT2 := Lib.hid (PT.out.skip (fun r => by rw [(HR.out k b).2 r] at hf; cases hf))
                            clear PT hf
                            go_wp2
                            go_roundw
                            case rel => exact ⟨b + 1, c, by omega, by go_num, M9.out, H9.out, PT2.out⟩
                            case measure => simp [intOf]; omega
                          | true =>
                            rw [hf] at cc
                            have RE := Lib.hid ((HR.out k b).1 hf)
                            have HB : Hid (0 ≤ c ∨ ¬ stepOk ((o : Int), a) b → Is L N k 7 []) := fun h => .stack HS.out HNM.out HSI.out (PT.out.bad HXX.out RE.out h) (fun j hj => (GD.out j hj).2)
                            have ch : wr.cell? ⟨hb, k, none⟩ = some (.int .i64 c) := by rw [H9.out.cell, nums_get _ hlt, setg_self]
                            have cz : wr.frozen? ⟨hb, k, none⟩ = false := H9.out.free k
                            clear hf
                            as_aux_lemma =>
                            by_cases hc : 0 ≤ c
                            · have HI := Lib.hid (HB.out (.inl hc))
                              have e1 : decide (0 ≤ c) = true := decide_eq_true hc
                              clear hc
                              go_wp2
                              go_ret3
                              exact chk_post HI.out (HG.out.trans M9.out.gw)
                            have e1 : decide (0 ≤ c) = false := decide_eq_false hc
                            by_cases hA : (b : Int) < T
                            · have f1 : decide ((b : Int) < T) = true := decide_eq_true hA
                              have HI := Lib.hid (HB.out (.inr (fun hs => absurd hs.1 (by rw [HT.out.1]; omega))))
                              clear hA hc
                              go_wp2
                              go_ret3
                              exact chk_post HI.out (HG.out.trans M9.out.gw)
                            have f1 : decide ((b : Int) < T) = false := decide_eq_false hA
                            have w1 : IntKind.i64.wrap ((b : Int) - T) = (b : Int) - T := wrap_in (by omega) (by omega)
                            have w2 : IntKind.i64.wrap ((b : Int) - T + V) = (b : Int) - T + V := wrap_in (by omega) (by omega)
                            by_cases hB : 16 < (b : Int) - T + V
                            · have f2 : decide (16 < (b : Int) - T + V) = true := decide_eq_true hB
                              have HI := Lib.hid (HB.out (.inr (fun hs => absurd hs.2 (by rw [HT.out.1, HT.out.2]; omega))))
                              clear hA hB hc
                              go_wp2
                              go_ret3
                              exact chk_post HI.out (HG.out.trans M9.out.gw)
                            have f2 : decide (16 < (b : Int) - T + V) = false := decide_eq_false hB
                            have PT2 := Lib.hid (PT.out.new (by omega) RE.out ⟨by rw [HT.out.1]; omega, by rw [HT.out.1, HT.out.2]; omega⟩)
                            have M10 := Lib.hid (M9.out.but (But.set hb wr k (.int .i64 b)) hge)
                            have H10 : Hid (Has (wr.setCell ⟨hb, k, none⟩ (.int .i64 b)) hb 3 (nums L.length (setg gg k b))) := by have := H9.out.put k (.int .i64 b); rw [nums_set _ _ hlt, setg_setg] at this; exact this
                            clear hA hB hc PT HB
                            go_wp2
                            go_roundw
                            case rel => exact ⟨b + 1, b, by omega, by go_num, M10.out, H10.out, PT2.out⟩
                            case measure => simp [intOf]; omega
                        · as_aux_lemma =>
                          obtain rfl : b = 17 := by omega
                          have GD2 : Hid (∀ j, j < k + 1 → Good L (setg gg k c) j) := fun j hj => by
                            by_cases e : j = k
                            · subst e; exact PT.out.all HXX.out (setg_self _ _ _)
                            · exact (GD.out j (by omega)).set (by omega)
                          clear PT
                          go_wp2
                          go_roundw
                          case rel => exact ⟨k + 1, setg gg k c, by omega, by go_num, M9.out, H9.out, GD2.out⟩
                          case measure => simp [intOf]; omega
                    · obtain rfl : k = L.length := by omega
                      obtain ⟨hs, h1, h2, h3⟩ := heights_is H6.out (HG.out.trans M6.out.gw) (by have := M6.out.ge; have := HG.out.size; omega) GD.out (by unfold maxLen; omega)
                      have HE : Hid (ChkPost L N W (.returned (.tuple #[.int .i64 0, .int .i64 0, .slice (some ⟨hb, 0, none⟩) L.length L.length])) wr) := ⟨0, 0, _, hs, rfl, .well HS.out HNM.out HSI.out h2 h1, h3⟩
                      clear h1 h2 h3
                      go_wp2
                      go_ret3
                      exact HE.out
end Go.Proofs.Ythjbjbbbbdhcmaa
