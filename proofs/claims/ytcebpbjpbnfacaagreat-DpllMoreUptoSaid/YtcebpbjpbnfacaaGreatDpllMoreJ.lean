/-
  The law DpllMore, where the arguments hold together at most 1048576 values: one more clause never makes more solutions; one that was found, forbidden, makes just one less. Its condition: that bound alone.
-/
import Derived.Test.YtcebpbjpbnfacaaGreatMg43
import Derived.Test.YtcebpbjpbnfacaaGreatMg35
import Derived.Test.YtcebpbjpbnfacaaGreatMg36
import Derived.Test.YtcebpbjpbnfacaaGreatMg06
namespace Go.Proofs.YtcebpbjpbnfacaaGreat.dpllMore
open Go.ChangeShapes Go.WideShapes Go.ChangeAt Go.RowKit
set_option linter.unusedVariables false

theorem negs_wf {n : Nat} (hn : n ≤ 65536) {m : List Bool} (hm : m.length = n) : ∀ z ∈ negs m, Wf z := by
  intro z hz
  unfold negs at hz
  obtain ⟨i, hi, rfl⟩ := List.mem_map.1 hz
  have := List.mem_range.1 hi
  unfold Wf
  split <;> omega

set_option maxHeartbeats 6400000 in
set_option maxRecDepth 100000 in
theorem walk (a0 : Int) (v1 v2 : Value) (w : World) (h0 : (Lit.int .u8 a0).wf = true) (h1 : FormN w v1) (h2 : IntsN w v2) :
    Calls Tryz.prog 7 #[.int .u8 a0, v1, v2] w fun e w' => e = .returned (.bool true) ∧ Below w.heap.size w w' := by
  obtain ⟨⟨A, f, fcap, rfl, hf, hfl, hfc⟩, hnf⟩ := h1
  obtain ⟨C, c, ccap, rfl, hc, hcl, hcw, hcn⟩ := h2
  obtain ⟨h3, h4⟩ := u8_wf h0
  obtain ⟨k0, hk, hk2⟩ := rem_to a0 h3 10 (by decide)
  have hk' : a0.tmod 10 = (k0 : Int) := hk
  obtain ⟨K, hK⟩ : ∃ K, 1 + k0 = K := ⟨_, rfl⟩
  have hKw : IntKind.i64.wrap (1 + (k0 : Int)) = (K : Int) := by rw [IntKind.wrap_i64]; omega
  have hK10 : K ≤ 10 := by omega
  have HF0 := Lib.hid hf
  have HFC := Lib.hid hfc
  have HNF := Lib.hid (fun (e : A = none) => hnf f.length fcap (by rw [e]))
  have HC0 := Lib.hid hc
  have HCW := Lib.hid hcw
  obtain ⟨nf, hnf1, hnf2⟩ := form_cells hf
  have HRF := Lib.hid hnf1
  have HCF := Lib.hid hnf2
  obtain ⟨i0, hi, hz0, hz1, hz2⟩ := info_parts infoRow
  have HI := Lib.hid (show _ ∧ _ ∧ _ ∧ _ from ⟨hi, hz0, hz1, hz2⟩)
  obtain ⟨i1, hi1, hy0, hy1, hy2⟩ := info_parts infoInt
  have HJ := Lib.hid (show _ ∧ _ ∧ _ ∧ _ from ⟨hi1, hy0, hy1, hy2⟩)
  clear hf hfc hnf hc hcw hnf1 hnf2 hi hz0 hz1 hz2 hi1 hy0 hy1 hy2 h0 hk hK hcn
  go_enter Tryz.func7, Tryz.ntmps7
  go_wp2_with fail
  refine (awake6_any _).mono ?_
  rintro e w1 ⟨rfl, hb⟩
  have HB1 := Lib.hid hb
  have HF := Lib.hid (HF0.out.keep hb)
  have HCS := Lib.hid (HC0.out.keep hb)
  clear hb
  have cs := Lib.hid (small_is A f fcap 400 w1 HF.out hfl HFC.out)
  have cm := Lib.hid (rmay_any (K : Int) A f fcap w1 (by unfold Wf; omega) HF.out (by omega))
  have HFc : FormAt (w1.alloc (.cells #[.slice C c.length ccap] 37)) (some ⟨w1.heap.size, 0, none⟩) [c] := rows_form (news := [.slice C c.length ccap]) 37 rfl ⟨rfl, fun i d hd => by
    have hi := (List.getElem?_eq_some_iff.1 hd).1
    obtain rfl : i = 0 := by simpa using hi
    simp at hd; subst hd
    exact ⟨C, ccap, rfl, HCS.out, hcl⟩⟩ (fun d hd => by rw [List.mem_singleton.1 hd]; exact HCW.out)
  have cm2 := Lib.hid (show Calls Tryz.prog 14 #[.int .i64 (K : Int), .slice (some ⟨w1.heap.size, 0, none⟩) 1 1] _ _ from rmay_any (K : Int) (some ⟨w1.heap.size, 0, none⟩) [c] 1 _ (by unfold Wf; omega) HFc (by rw [List.length_singleton]; decide))
  clear HFc
  by_cases hs : (sizeM f : Int) ≤ 400
  · have hs2 := decide_eq_true hs
    rw [hs2] at cs
    by_cases hcc : (40 : Int) < (c.length : Int)
    · go_wp2_with (go_at_call 12; ((with_reducible refine cs.out.mono ?_); rintro e w' ⟨rfl, rfl⟩))
      go_ret
      exact ⟨rfl, HB1.out⟩
    · have hc40 : c.length ≤ 40 := by omega
      cases hmay : mayM (K : Int) f with
      | false =>
        rw [hmay] at cm
        go_wp2_with (first | (go_at_call 12; ((with_reducible refine cs.out.mono ?_); rintro e w' ⟨rfl, rfl⟩)) | (go_at_call 14; ((with_reducible refine cm.out.mono ?_); rintro e w' ⟨rfl, rfl⟩)))
        go_ret
        exact ⟨rfl, HB1.out⟩
      | true =>
        rw [hmay] at cm
        cases hmc : mayM (K : Int) [c] with
        | false =>
          rw [hmc] at cm2
          go_wp2_with (first | (go_at_call 12; ((with_reducible refine cs.out.mono ?_); rintro e w' ⟨rfl, rfl⟩)) | (go_at_call 14; ((with_reducible refine cm.out.mono ?_); rintro e w' ⟨rfl, rfl⟩)) | (go_at_call 14; ((with_reducible refine cm2.out.mono ?_); rintro e w' ⟨rfl, rfl⟩)))
          go_ret
          exact ⟨rfl, Below.plus HB1.out _⟩
        | true =>
          rw [hmc] at cm2
          have hlen : f.length ≤ 400 := by have := size_len f; omega
          have HFS : Hid (∀ c ∈ f, c.length ≤ 100000) := fun c hc => by have := size_le hc; omega
          have HMAY := Lib.hid hmay
          have HMC := Lib.hid hmc
          clear hs hs2 hmay hmc hcc
          go_wp2_with (first | (go_at_call 12; ((with_reducible refine cs.out.mono ?_); rintro e w' ⟨rfl, rfl⟩)) | (go_at_call 14; ((with_reducible refine cm.out.mono ?_); rintro e w' ⟨rfl, rfl⟩)) | (go_at_call 14; ((with_reducible refine cm2.out.mono ?_); rintro e w' ⟨rfl, rfl⟩)))
          have CC1 := Lib.hid (ccount_any (fcap := fcap) 1048576 (HF.out.keep (below_alloc w1 (.cells #[.slice C c.length ccap] 37))) HMAY.out (by omega) (by omega) HFS.out (by decide) (by decide))
          (with_reducible refine CC1.out.mono ?_)
          rintro e w3 ⟨rfl, b3⟩
          have HB3 := Lib.hid (Below.on (Below.plus HB1.out (.cells #[.slice C c.length ccap] 37)) b3)
          have hXt : many K f ≤ 1024 := Nat.le_trans (many_le K f) (Nat.pow_le_pow_right (n := 2) (by decide) hK10)
          obtain ⟨X, hX⟩ : ∃ X, many K f = X := ⟨_, rfl⟩
          have HX := Lib.hid (And.intro hX (show X ≤ 1024 by omega))
          rw [show min (1048576 : Int) (many K f) = (X : Int) by omega]
          have HC3 := Lib.hid ((HCS.out.keep (below_alloc w1 (.cells #[.slice C c.length ccap] 37))).keep b3)
          clear b3 CC1 hX hXt cs cm cm2
          have HOa := Lib.hid (World.ownsRow_lit (base := w3.heap.size) (e := 37) (size := 1) w3 #[] 0 (Nat.le_refl _) (Nat.zero_le _) rfl)
          go_wp2_with (first
            | (at_builtin; refine rapp_any rfl (.tmp 55) (.tmp 56) _ rfl w3 37 i0 (.slice none 0 0) 24 Tryz.underlying22 HI.out.1 HI.out.2.1 HI.out.2.2.1 HI.out.2.2.2 rfl (.slice (some ⟨w3.heap.size, 0, none⟩) 0 0) 0 [] rfl HOa.out (below_alloc w3 _) A f.length fcap nf rfl HNF.out HRF.out.1 (fun j u hu => by
                obtain ⟨a2, h2, h3⟩ := HCF.out j u hu
                exact ⟨a2, h2, ((Below.plus HB3.out _).cell (p := a2.add j) (by rw [add_block]; exact HF0.out.lt a2 h2)).trans h3⟩) (rows_cells HRF.out) (by unfold maxLen; omega) (by omega) ?_; intro v4 w4a ho4 hb4; rw [Nat.zero_add, List.nil_append] at ho4; obtain ⟨X4a, c4a, rfl⟩ := own_shape ho4; have HO4a := Lib.hid ho4; have HB4a := Lib.hid hb4; clear ho4 hb4)
            | (at_builtin; refine rapp_any rfl (.tmp 57) (.tmp 59) _ rfl w3 37 i0 (.slice none 0 0) 24 Tryz.underlying22 HI.out.1 HI.out.2.1 HI.out.2.2.1 HI.out.2.2.2 rfl (.slice X4a f.length c4a) f.length nf rfl (HO4a.out.alloc _) (Below.plus HB4a.out _) (some ⟨w4a.heap.size, 0, none⟩) 1 1 [.slice C c.length ccap] rfl (fun h => by cases h) rfl (fun j u hu => by
                have hj := (List.getElem?_eq_some_iff.1 hu).1
                obtain rfl : j = 0 := by simpa using hj
                simp at hu; subst hu
                exact ⟨_, rfl, by rw [show (⟨w4a.heap.size, 0, none⟩ : Addr).add 0 = ⟨w4a.heap.size, 0, none⟩ by unfold Addr.add; split <;> simp_all]; exact HasB.cell (new_heap w4a _) 0⟩) (fun u hu => by rw [List.mem_singleton.1 hu]; rfl) (by unfold maxLen; omega) (by omega) ?_; intro v5 w5a ho5 hb5; obtain ⟨X5a, c5a, rfl⟩ := own_shape ho5; have HO5a := Lib.hid ho5; have HB5a := Lib.hid hb5; clear ho5 hb5))
          have HRCa : Hid (RowsOK w5a [.slice C c.length ccap] [c]) := ⟨rfl, fun i d hd => by
            have hi := (List.getElem?_eq_some_iff.1 hd).1
            obtain rfl : i = 0 := by simpa using hi
            simp at hd; subst hd
            exact ⟨_, _, rfl, HC3.out.keep HB5a.out, by omega⟩⟩
          have HFFa := Lib.hid (own_form2 (f := f ++ [c]) HO5a.out ((HRF.out.keep (Below.on HB3.out HB5a.out)).append HRCa.out) (fun d hd => by
            rcases List.mem_append.1 hd with h | h
            · exact HF0.out.wf d h
            · rw [List.mem_singleton.1 h]; exact HCW.out))
          have CC2 := Lib.hid (by
            have := ccount_any (n := K) (fcap := c5a) 1048576 HFFa.out (may_app HMAY.out HMC.out) (by omega) (by rw [List.length_append, List.length_singleton]; omega) (fun d hd => by
              rcases List.mem_append.1 hd with h | h
              · exact HFS.out d h
              · rw [List.mem_singleton.1 h]; omega) (by decide) (by decide)
            rw [show (f ++ [c]).length = f.length + 1 by simp] at this
            exact this)
          have HB5 := Lib.hid (Below.on HB3.out HB5a.out)
          clear HO4a HB4a HO5a HB5a HOa
          (with_reducible refine CC2.out.mono ?_)
          rintro e w6 ⟨rfl, b6⟩
          have HB6 := Lib.hid (Below.on HB5.out b6)
          obtain ⟨Y, hY⟩ : ∃ Y, many K (f ++ [c]) = Y := ⟨_, rfl⟩
          have hYX : Y ≤ X := by rw [← hY, ← HX.out.1]; exact many_more K f c
          rw [show min (1048576 : Int) (many K (f ++ [c])) = (Y : Int) by have := HX.out.2; omega]
          have HYX := Lib.hid hYX
          have hyx : ¬ (X : Int) < (Y : Int) := by omega
          have CS := Lib.hid (solve_ten (fcap := fcap) (HF0.out.keep HB6.out) HMAY.out hK10 (by omega) HFS.out)
          clear b6 hY hYX CC2 HB5
          go_wp2_with fail
          (with_reducible refine CS.out.mono ?_)
          rintro e w7 ⟨b7, h⟩
          have HB7 := Lib.hid (Below.on HB6.out b7)
          clear b7 CS
          rcases h.symm with ⟨rfl, h0⟩ | ⟨m, g, rfl, _, hb, hm, he⟩
          · have hx0 : X = 0 := by rw [← HX.out.1]; exact h0
            have hx1 : ((X : Int) == 0) = true := by rw [hx0]; rfl
            clear h h0 hx0
            go_wp2_with fail
            go_ret
            exact ⟨rfl, HB7.out⟩
          · have HB := Lib.hid hb
            have zg := lt_of_heap hb
            have HM := Lib.hid (And.intro hm he)
            have R0 : Hid (LRel w7 w7 3 (.slice none 0 0) (ints ((negs m).take 0))) := LRel.nil w7 _
            clear h hb hm he
            go_wp2_with fail
            generalize decide (X < Y) = bxy at *
            go_loopw [15, 16] (fun nv iv wr => ∃ (i : Nat) (A2 : Option Addr) (c2 : Nat), i ≤ K ∧ iv = .int .i64 i ∧ nv = .slice A2 i c2 ∧ Hid (LRel w7 wr 3 (.slice A2 i c2) (ints ((negs m).take i)))) (fun _ iv _ => K - (intOf iv).toNat)
            case atStart => exact ⟨0, none, 0, Nat.zero_le _, rfl, rfl, R0⟩
            case round =>
              obtain ⟨i, A2, c2, hi, rfl, rfl, R⟩ := hrel
              clear R0
              have hnl : (negs m).length = K := by rw [negs_len]; exact HM.out.1
              by_cases hlt : i < K
              · obtain ⟨b, hbi⟩ : ∃ b, m[i]? = some b := ⟨_, List.getElem?_eq_getElem (by rw [HM.out.1]; exact hlt)⟩
                have xg : wr.cell? ⟨g, i, none⟩ = some (.bool b) := (R.out.below.cell (p := ⟨g, i, none⟩) zg).trans ((HB.out.cell i).trans (by simp [hbi]))
                have hx : (negs m)[i]? = some (if b = true then -((i : Int) + 1) else (i : Int) + 1) := by
                  unfold negs
                  rw [List.getElem?_map, List.getElem?_range (by rw [HM.out.1]; exact hlt), Option.map_some, hbi]; rfl
                have HTK := Lib.hid (taken_snoc hx)
                have HO : Hid (wr.ownsRow w7.heap.size 3 1 (.slice A2 i c2) i (ints ((negs m).take i))) := by
                  have := R.out.own
                  rw [show (ints ((negs m).take i)).length = i by rw [List.length_map, List.length_take]; omega] at this; exact this
                have HSZ := Lib.hid R.out.below.size
                have HLN := Lib.hid (show (ints ((negs m).take i)).length = i by rw [List.length_map, List.length_take]; omega)
                obtain ⟨y, hy⟩ : ∃ y : Int, (i : Int) + 1 = y := ⟨_, rfl⟩
                obtain ⟨z, hz⟩ : ∃ z : Int, -y = z := ⟨_, rfl⟩
                have hw1 : IntKind.i64.wrap ((i : Int) + 1) = y := by rw [IntKind.wrap_i64]; omega
                have hw2 : IntKind.i64.wrap (-y) = z := by rw [IntKind.wrap_i64]; omega
                have q1 : (0 : Int) ≤ (i : Int) := by omega
                have q2 : (i : Int) < (K : Int) := by omega
                rw [hy, hz] at HTK
                have HY := Lib.hid hy
                clear hbi hx hnl hz hy
                cases b
                all_goals
                  simp only [if_true, if_false, Bool.false_eq_true] at HTK
                  go_wp2_with (at_builtin; refine wpList_append_lies _ rfl _ _ _ rfl w7.heap.size 3 i1 _ 1 8 Tryz.underlying37 HJ.out.1 HJ.out.2.1 HJ.out.2.2.1 HJ.out.2.2.2 rfl (by omega) (.slice A2 i c2) i (ints ((negs m).take i)) rfl (HO.out.alloc _) ⟨wr.heap.size, 0, none⟩ 1 1 [.int .i64 _] rfl rfl (World.news_of_block (cs := #[.int .i64 _]) (t := 3) (fr := (0, 0)) (new_heap wr _)) (by simp [Value.oneCell']) (by omega) (by unfold maxLen; omega) (by omega) (by have := HSZ.out; simp; omega) (wr.heap.size + 1) (by simp) ?_; intro g1 c1 wp hown1 hg1 hat1 hlt1; have HO1 := Lib.hid hown1; have HG1 := Lib.hid hg1; clear hown1 hg1 hat1 hlt1)
                  go_roundw
                  case rel => exact ⟨i + 1, some ⟨g1, 0, none⟩, c1, by omega, by rw [← HY.out]; go_num, rfl, by
                    have hx := R.out.more (g := g1) (cap := c1) (by rw [HLN.out]; exact HO1.out) HG1.out
                    rw [HLN.out] at hx
                    refine Lib.hid ?_
                    rw [HTK.out]; simpa [List.map_append] using hx⟩
                  case measure =>
                    have h9 := HY.out
                    simp [intOf]; omega
              · obtain rfl : i = K := by omega
                have HNE := Lib.hid (show (negs m).take i = negs m by rw [← hnl, List.take_length])
                have hS : Hid (SeqAt (Value.int .i64) wr A2 (negs m)) := Lib.hid (seq_own (base := w7.heap.size) (e := 3) (n := i) (cap := c2) (by
                  have := R.out.own
                  rw [HNE.out] at this
                  rwa [show (ints (negs m)).length = i by rw [List.length_map]; exact hnl] at this))
                have HB8 := Lib.hid (Below.on HB7.out R.out.below)
                have HNL := Lib.hid hnl
                clear hi R zg hnl HNE
                have HOb := Lib.hid (World.ownsRow_lit (base := wr.heap.size) (e := 37) (size := 1) wr #[] 0 (Nat.le_refl _) (Nat.zero_le _) rfl)
                go_wp2_with (first
                  | (at_builtin; refine rapp_any rfl (.tmp 109) (.tmp 110) _ rfl wr 37 i0 (.slice none 0 0) 24 Tryz.underlying22 HI.out.1 HI.out.2.1 HI.out.2.2.1 HI.out.2.2.2 rfl (.slice (some ⟨wr.heap.size, 0, none⟩) 0 0) 0 [] rfl HOb.out (below_alloc wr _) A f.length fcap nf rfl HNF.out HRF.out.1 (fun j u hu => by
                      obtain ⟨a2, h2, h3⟩ := HCF.out j u hu
                      exact ⟨a2, h2, ((Below.plus HB8.out _).cell (p := a2.add j) (by rw [add_block]; exact HF0.out.lt a2 h2)).trans h3⟩) (rows_cells HRF.out) (by unfold maxLen; omega) (by omega) ?_; intro v4 w4b ho4 hb4; rw [Nat.zero_add, List.nil_append] at ho4; obtain ⟨X4b, c4b, rfl⟩ := own_shape ho4; have HO4b := Lib.hid ho4; have HB4b := Lib.hid hb4; clear ho4 hb4)
                  | (at_builtin; refine rapp_any rfl (.tmp 111) (.tmp 113) _ rfl wr 37 i0 (.slice none 0 0) 24 Tryz.underlying22 HI.out.1 HI.out.2.1 HI.out.2.2.1 HI.out.2.2.2 rfl (.slice X4b f.length c4b) f.length nf rfl (HO4b.out.alloc _) (Below.plus HB4b.out _) (some ⟨w4b.heap.size, 0, none⟩) 1 1 [.slice A2 i c2] rfl (fun h => by cases h) rfl (fun j u hu => by
                      have hj := (List.getElem?_eq_some_iff.1 hu).1
                      obtain rfl : j = 0 := by simpa using hj
                      simp at hu; subst hu
                      exact ⟨_, rfl, by rw [show (⟨w4b.heap.size, 0, none⟩ : Addr).add 0 = ⟨w4b.heap.size, 0, none⟩ by unfold Addr.add; split <;> simp_all]; exact HasB.cell (new_heap w4b _) 0⟩) (fun u hu => by rw [List.mem_singleton.1 hu]; rfl) (by unfold maxLen; omega) (by omega) ?_; intro v5 w5b ho5 hb5; obtain ⟨X5b, c5b, rfl⟩ := own_shape ho5; have HO5b := Lib.hid ho5; have HB5b := Lib.hid hb5; clear ho5 hb5))
                have HMN := Lib.hid (may_negs (n := i) (by omega) HM.out.1)
                have HRCb : Hid (RowsOK w5b [.slice A2 i c2] [negs m]) := ⟨rfl, fun j d hd => by
                  have hi := (List.getElem?_eq_some_iff.1 hd).1
                  obtain rfl : j = 0 := by simpa using hi
                  simp at hd; subst hd
                  exact ⟨A2, c2, by rw [HNL.out]; rfl, hS.out.keep HB5b.out, by rw [HNL.out]; omega⟩⟩
                have HFFb := Lib.hid (own_form2 (f := f ++ [negs m]) HO5b.out ((HRF.out.keep (Below.on HB8.out HB5b.out)).append HRCb.out) (fun d hd => by
                  rcases List.mem_append.1 hd with h | h
                  · exact HF0.out.wf d h
                  · rw [List.mem_singleton.1 h]; exact negs_wf (by omega) HM.out.1))
                have CC3 := Lib.hid (by
                  have := ccount_any (n := i) (fcap := c5b) 1048576 HFFb.out (may_app HMAY.out HMN.out) (by omega) (by rw [List.length_append, List.length_singleton]; omega) (fun d hd => by
                    rcases List.mem_append.1 hd with h | h
                    · exact HFS.out d h
                    · rw [List.mem_singleton.1 h, HNL.out]; omega) (by decide) (by decide)
                  rw [show (f ++ [negs m]).length = f.length + 1 by simp] at this
                  exact this)
                have HB9 := Lib.hid (Below.on HB8.out HB5b.out)
                clear HO4b HB4b HO5b HB5b HOb
                (with_reducible refine CC3.out.mono ?_)
                rintro e w10 ⟨rfl, b10⟩
                have HB10 := Lib.hid (Below.on HB9.out b10)
                obtain ⟨Z, hZ⟩ : ∃ Z, many i (f ++ [negs m]) = Z := ⟨_, rfl⟩
                have hZX : Z + 1 = X := by rw [← hZ, ← HX.out.1]; exact many_not (by omega) HM.out.1 HM.out.2
                rw [show min (1048576 : Int) (many i (f ++ [negs m])) = (Z : Int) by have := HX.out.2; omega]
                have hw : IntKind.i64.wrap ((X : Int) - 1) = (Z : Int) := by rw [IntKind.wrap_i64]; have := HX.out.2; omega
                clear b10 hZ hZX CC3 HB9
                go_wp2_with fail
                go_ret
                exact ⟨rfl, HB10.out⟩
  · have hs2 := decide_eq_false hs
    rw [hs2] at cs
    go_wp2_with (go_at_call 12; ((with_reducible refine cs.out.mono ?_); rintro e w' ⟨rfl, rfl⟩))
    go_ret
    exact ⟨rfl, HB1.out⟩

set_option maxRecDepth 100000 in
theorem contract (H : Type) (enc : TypeId × Value → H) (W : World) (base : Nat) (args : Array Value) (ds gs : List (DataW H)) (before : List MemPlace)
    (hval : ∀ (j : Nat) t v, Tryz.f7.params[j]? = some t → args[j]? = some v → Value.okWide Tryz.prog W .any base t v)
    (hW : DataW.Whole enc Tryz.prog Tryz.f7.params.toList Rows.dpllMoreSpec.vars false W args.toList ds gs before) (hk : Rows.uptoSmall H (ds ++ gs) = true) :
    Calls Tryz.prog 7 args W fun e W' => ∃ v, e = .returned v ∧ Rows.dpllMoreSpec.post enc Tryz.prog Tryz.f7 false true false false W args v W' := by
  have hW' := hW
  obtain ⟨p, q, hA0, hV, rfl, hfz, hnd⟩ := hW
  have hA : DataW.TrodAll enc Tryz.prog W 0 (fun _ => true) true Tryz.f7.params.toList args.toList ds p := hA0
  rw [Tryz.params7] at hA hval
  obtain ⟨v0, vs0, d0, ds0, p0, q0, hargs, rfl, rfl, h0, r0⟩ := trodAll_cons hA
  obtain ⟨v1, vs1, d1, ds1, p1, q1, rfl, rfl, rfl, h1, r1⟩ := trodAll_cons r0
  obtain ⟨v2, vs2, d2, ds2, p2, q2, rfl, rfl, rfl, h2, r2⟩ := trodAll_cons r1
  obtain ⟨rfl, rfl, rfl⟩ := trodAll_nil r2
  obtain rfl : args = #[v0, v1, v2] := by cases args; simp_all
  obtain ⟨rfl, rfl⟩ := trodVars_none hV
  simp only [List.append_nil] at hW' hk
  have hb : Rows.uptoBulkAll [d0, d1, d2] ≤ 1048576 := of_decide_eq_true hk
  simp only [Rows.uptoBulkAll] at hb
  obtain ⟨a0, rfl, rfl, rfl, w0⟩ := open_int Tryz.underlying5 (hval 0 5 v0 rfl rfl) h0
  have w1 : FormN W v1 := ⟨form_b Tryz.underlying22 Tryz.underlying37 Tryz.underlying3 cellsRow cellsInt (hval 1 22 v1 rfl rfl) h1 (by omega), nil_form Tryz.underlying22 (hval 1 22 v1 rfl rfl)⟩
  have w2 : IntsN W v2 := ints_n Tryz.underlying37 Tryz.underlying3 cellsInt (hval 2 37 v2 rfl rfl) h2
  clear hA0
  have hlt := hW'.lt
  refine (walk a0 v1 v2 W w0 w1 w2).mono fun e W' ⟨he, hg⟩ => ?_
  subst he
  exact ⟨_, rfl, post_kept hW' hg (fun _ _ _ => (trodAll_cons_mk (shut_bool Tryz.underlying4 _) trodAll_mk0)) (fun sp hsp => (trodAll_cons_mk (shut_int Tryz.underlying5 w0) (trodAll_cons_mk (WideElems.Trod_stays laidOut (by kernel_rfl) (of_decide_eq_true (by kernel_rfl)) h1 (fun x hx => hg.same (hlt x (by first | exact hx | (simp; first | exact .inl hx | exact .inr hx | exact hx | exact .inr (.inl hx) | exact .inr (.inr hx))))) (fun x hx => hsp x (by first | exact hx | (simp; first | exact .inl hx | exact .inr hx | exact hx | exact .inr (.inl hx) | exact .inr (.inr hx))))) (trodAll_cons_mk (WideElems.Trod_stays laidOut (by kernel_rfl) (of_decide_eq_true (by kernel_rfl)) h2 (fun x hx => hg.same (hlt x (by first | exact hx | (simp; first | exact .inl hx | exact .inr hx | exact hx | exact .inr (.inl hx) | exact .inr (.inr hx))))) (fun x hx => hsp x (by first | exact hx | (simp; first | exact .inl hx | exact .inr hx | exact hx | exact .inr (.inl hx) | exact .inr (.inr hx))))) trodAll_mk0)))) (fun _ _ => rfl) (by first | rfl | simp)
    (ok_one (by kernel_rfl) rfl (okWide_bool_mk Tryz.underlying4 _))⟩
set_option maxRecDepth 100000 in
theorem lifted (os : Os) (started : os.Started) (H : Type) (enc : TypeId × Value → H) (F : Stop.Interp) :
    ReturnsInHanded {} Tryz.checked os 7 .any ((Rows.OpenSpec.upto Rows.dpllMoreSpec).pre6 enc Tryz.prog Tryz.f7 Rows.dpllMoreUptoRow.domain false) (((Rows.OpenSpec.upto Rows.dpllMoreSpec).at F).post enc Tryz.prog Tryz.f7 false true false false) := by
  refine returnsInHanded_of_cond (C := Tryz.checked) (s := Rows.OpenSpec.upto Rows.dpllMoreSpec) (k := Rows.uptoSmall) rfl own started (by kernel_rfl) Tryz.func7
    (OpenSpec.witness (enc := enc) (C := Tryz.checked) (s := Rows.OpenSpec.upto Rows.dpllMoreSpec) (k := Rows.uptoSmall) rfl false ⟨#[], #[.int .u8 0, .slice none 0 0, .slice none 0 0], []⟩ 8 (by kernel_rfl) (by kernel_rfl) (by kernel_rfl)
      (x := ([.lit (.int .u8 0), .nil, .nil], [], [])) (by kernel_rfl) rfl (by kernel_rfl)) ?_
  intro W base args ds gs before hval hW _ hk _
  exact contract H enc W base args ds gs before hval hW hk

theorem proved : Rows.DpllMoreUptoSaid :=
  OpenClaim.holds_of_cond 7 Tryz.f7 rfl rfl rfl rfl rfl rfl rfl ⟨rfl, rfl, rfl, rfl, rfl⟩ rfl rfl rfl rfl rfl (by kernel_rfl) Tryz.func7 (by kernel_rfl)
    (of_decide_eq_true (by kernel_rfl)) (by unfold Func.isWrapper; first | (rw [if_pos (by decide +kernel)]; kernel_rfl) | (rw [if_neg (by decide +kernel)]; exact ⟨rfl, rfl⟩))
    (fun os started H enc _ F => lifted os started H enc F)
#print axioms proved
end Go.Proofs.YtcebpbjpbnfacaaGreat.dpllMore
