/-
  The law DpllNames, where the arguments hold together at most 1048576 values: numbers turned round, truths turned over, and clauses in another order change nothing of whether there is a solution, and of how many. Its condition: that bound alone.
-/
import Derived.Test.YtcebpbjpbnfacaaGreatMg44
import Derived.Test.YtcebpbjpbnfacaaGreatMg35
import Derived.Test.YtcebpbjpbnfacaaGreatMg36
import Derived.Test.YtcebpbjpbnfacaaGreatMg06
namespace Go.Proofs.YtcebpbjpbnfacaaGreat.dpllNames
open Go.ChangeShapes Go.WideShapes Go.ChangeAt Go.RowKit
set_option linter.unusedVariables false

theorem u16_wf {a : Int} (h : (Lit.int .u16 a).wf = true) : 0 ≤ a ∧ a ≤ 65535 := by
  simp [Lit.wf, IntKind.min, IntKind.max, IntKind.signed, IntKind.bits] at h
  omega
/-- The flips' bits. -/
def flB (a : Int) (v : Nat) : Bool := bits .and .u16 (a / 2 ^ v) 1 == 1

set_option maxHeartbeats 6400000 in
set_option maxRecDepth 100000 in
theorem walk (a0 : Int) (v1 : Value) (a2 : Int) (w : World) (h0 : (Lit.int .u8 a0).wf = true) (h1 : FormN w v1) (h2 : (Lit.int .u16 a2).wf = true) :
    Calls Tryz.prog 6 #[.int .u8 a0, v1, .int .u16 a2] w fun e w' => e = .returned (.bool true) ∧ Below w.heap.size w w' := by
  obtain ⟨⟨A, f, fcap, rfl, hf, hfl, hfc⟩, hnf⟩ := h1
  obtain ⟨h3, h4⟩ := u8_wf h0
  obtain ⟨h5, h6⟩ := u16_wf h2
  obtain ⟨K, hk, hk2⟩ := rem_to a0 h3 11 (by decide)
  have hk' : a0.tmod 11 = (K : Int) := hk
  have HF0 := Lib.hid hf
  have HFC := Lib.hid hfc
  obtain ⟨i0, hi, hz0, hz1, hz2⟩ := info_parts infoRow
  have HI := Lib.hid (show _ ∧ _ ∧ _ ∧ _ from ⟨hi, hz0, hz1, hz2⟩)
  obtain ⟨i1, hi1, hy0, hy1, hy2⟩ := info_parts infoInt
  have HJ := Lib.hid (show _ ∧ _ ∧ _ ∧ _ from ⟨hi1, hy0, hy1, hy2⟩)
  clear hf hfc hnf hi hz0 hz1 hz2 hi1 hy0 hy1 hy2 h0 h2 hk
  go_enter Tryz.func6, Tryz.ntmps6
  go_wp2_with fail
  refine (awake6_any _).mono ?_
  rintro e w1 ⟨rfl, hb⟩
  have HB1 := Lib.hid hb
  have HF := Lib.hid (HF0.out.keep hb)
  clear hb
  have cs := Lib.hid (small_is A f fcap 400 w1 HF.out hfl HFC.out)
  have cm := Lib.hid (rmay_any (K : Int) A f fcap w1 (by unfold Wf; omega) HF.out (by omega))
  by_cases hs : (sizeM f : Int) ≤ 400
  · have hs2 := decide_eq_true hs
    rw [hs2] at cs
    cases hmay : mayM (K : Int) f with
    | false =>
      rw [hmay] at cm
      go_wp2_with (first | (go_at_call 12; ((with_reducible refine cs.out.mono ?_); rintro e w' ⟨rfl, rfl⟩)) | (go_at_call 14; ((with_reducible refine cm.out.mono ?_); rintro e w' ⟨rfl, rfl⟩)))
      go_ret
      exact ⟨rfl, HB1.out⟩
    | true =>
      rw [hmay] at cm
      have hlen : f.length ≤ 400 := by have := size_len f; omega
      have HFS : Hid (∀ c ∈ f, c.length ≤ 400) := fun c hc => by have := size_le hc; omega
      have HMAY := Lib.hid hmay
      clear hs hs2 hmay
      obtain ⟨x0, hx0⟩ : ∃ x0 : Int, (f.length : Int) - 1 = x0 := ⟨_, rfl⟩
      have hw0 : IntKind.i64.wrap ((f.length : Int) - 1) = x0 := by rw [IntKind.wrap_i64]; omega
      have HX0 := Lib.hid hx0
      clear hx0
      go_wp2_with (first | (go_at_call 12; ((with_reducible refine cs.out.mono ?_); rintro e w' ⟨rfl, rfl⟩)) | (go_at_call 14; ((with_reducible refine cm.out.mono ?_); rintro e w' ⟨rfl, rfl⟩)))
      go_loopw [8, 9] (fun gv iv wr => ∃ (i L : Nat) (x : Int) (G : Option Addr) (gc : Nat) (news : List Value), i + L = f.length ∧ x + 1 = (i : Int) ∧ iv = .int .i64 x ∧ gv = .slice G L gc ∧ news.length = L ∧ Hid (LRel w1 wr 37 (.slice G L gc) news) ∧ Hid (RowsU w1 wr news (rnF K (flB a2) (f.drop i)))) (fun _ iv _ => (intOf iv + 1).toNat)
      case atStart => exact ⟨f.length, 0, x0, none, 0, [], rfl, by have := HX0.out; omega, rfl, rfl, rfl, LRel.nil w1 _, Lib.hid (by rw [List.drop_length]; exact ⟨rfl, fun i c hc => by simp [rnF] at hc⟩)⟩
      case round =>
        obtain ⟨i, L, x, G, gc, news, hi, hx, rfl, rfl, hnl, R, RW⟩ := hrel
        cases i with
        | zero =>
          obtain rfl : x = -1 := by omega
          obtain rfl : L = f.length := by omega
          have HGW := Lib.hid (rnF_wf (n := K) (fl := flB a2) (by omega) HF0.out.wf HMAY.out)
          have HGM := Lib.hid (rnF_may (n := K) (fl := flB a2) (by omega) HF0.out.wf HMAY.out)
          have HGT := Lib.hid (many_tw (n := K) (fl := flB a2) (by omega) HF0.out.wf HMAY.out)
          have HGC := Lib.hid (rnF_row (n := K) (fl := flB a2) HFS.out)
          have HGL := Lib.hid (rnF_len (n := K) (fl := flB a2) (f := f))
          rw [List.drop_zero] at RW
          obtain ⟨g, hg⟩ : ∃ g, rnF K (flB a2) f = g := ⟨_, rfl⟩
          rw [hg] at HGW HGM HGT HGC HGL RW
          have HFG : Hid (FormAt wr G g) := Lib.hid (own_form2 (n := f.length) (cap := gc) (by have h := R.out.own; rwa [hnl] at h) (RW.out.ok (fun c hc => by have := HGC.out c hc; omega)) HGW.out)
          have HB2 := Lib.hid (Below.on HB1.out R.out.below)
          have HF2 := Lib.hid (HF.out.keep R.out.below)
          clear R RW hnl hx hg cs cm hi
          have CS := Lib.hid (solve_ten (fcap := fcap) HF2.out HMAY.out (by omega) (by omega) (fun c hc => by have := HFS.out c hc; omega))
          go_wp2_with fail
          (with_reducible refine CS.out.mono ?_)
          rintro e w3 ⟨b3, h3a⟩
          have HB3 := Lib.hid (Below.on HB2.out b3)
          have HF3 := Lib.hid (HF2.out.keep b3)
          have HFG3 := Lib.hid (HFG.out.keep b3)
          have CSG := Lib.hid (by
            have h := solve_ten (fcap := gc) HFG3.out HGM.out (by omega) (by rw [HGL.out]; omega) (fun c hc => by have := HGC.out c hc; omega)
            rw [HGL.out] at h; exact h)
          obtain ⟨X, hX⟩ : ∃ X, many K f = X := ⟨_, rfl⟩
          have hXt : many K f ≤ 1024 := Nat.le_trans (many_le K f) (Nat.pow_le_pow_right (n := 2) (by decide) (show K ≤ 10 by omega))
          have HX := Lib.hid (And.intro hX (show X ≤ 1024 by omega))
          clear b3 CS hXt hX
          rcases h3a with ⟨m, g3, rfl, _, _, hm, he⟩ | ⟨rfl, h0⟩
          · have hx0 : 0 < X := by rw [← HX.out.1]; exact many_pos hm he
            have HX0 := Lib.hid hx0
            clear hm he hx0
            go_wp2_with fail
            (with_reducible refine CSG.out.mono ?_)
            rintro e w4 ⟨b4, h4a⟩
            rcases h4a with ⟨m2, g4, rfl, _, hb, hm2, he2⟩ | ⟨_, h0⟩
            · have HB4 := Lib.hid (Below.on HB3.out b4)
              have HF4 := Lib.hid (HF3.out.keep b4)
              have HFG4 := Lib.hid (HFG3.out.keep b4)
              have HS4 := Lib.hid hb
              have HM2 := Lib.hid (And.intro hm2 he2)
              have HG4 := Lib.hid (lt_of_heap hb)
              clear b4 hb hm2 he2 CSG
              have CC := Lib.hid (ccount_any (fcap := fcap) 1048576 HF4.out HMAY.out (by omega) (by omega) (fun c hc => by have := HFS.out c hc; omega) (by decide) (by decide))
              go_wp2_with fail
              (with_reducible refine CC.out.mono ?_)
              rintro e w5 ⟨rfl, b5⟩
              rw [show min (1048576 : Int) (many K f) = (X : Int) by have := HX.out; omega]
              have HB5 := Lib.hid (Below.on HB4.out b5)
              have HFG5 := Lib.hid (HFG4.out.keep b5)
              have CCG := Lib.hid (by
                have h := ccount_any (fcap := gc) 1048576 HFG5.out HGM.out (by omega) (by rw [HGL.out]; omega) (fun c hc => by have := HGC.out c hc; omega) (by decide) (by decide)
                rw [HGL.out] at h; exact h)
              have HS5 : Hid (SeqAt Value.bool w5 (some ⟨g4, 0, none⟩) m2) := Lib.hid ((show SeqAt Value.bool w4 (some ⟨g4, 0, none⟩) m2 from ⟨fun i z hz => ⟨_, rfl, by rw [add_at]; exact (HS4.out.cell i).trans (by simp [hz])⟩⟩).keep b5)
              clear b5 CC
              go_wp2_with fail
              (with_reducible refine CCG.out.mono ?_)
              rintro e w6 ⟨rfl, b6⟩
              have HB6 := Lib.hid (Below.on HB5.out b6)
              have CE := Lib.hid (by
                have h := reval_any G g gc (some ⟨g4, 0, none⟩) m2 K w6 (HFG5.out.keep b6) (by rw [HGL.out]; omega) (HS5.out.keep b6) (by rw [HM2.out.1]; omega)
                rw [HGL.out, HM2.out.1, HM2.out.2] at h; exact h)
              rw [show min (1048576 : Int) (many K g) = (X : Int) by have := HX.out; have := HGT.out; omega]
              have h0X : (0 : Int) < (X : Int) := by have := HX0.out; omega
              clear b6 CCG
              go_wp2_with (go_at_call 16; ((with_reducible refine CE.out.mono ?_); rintro e w' ⟨rfl, rfl⟩))
              go_ret
              exact ⟨rfl, HB6.out⟩
            · rw [HGT.out, HX.out.1] at h0
              exact absurd h0 (by have := HX0.out; omega)
          · rw [HX.out.1] at h0
            subst h0
            go_wp2_with fail
            (with_reducible refine CSG.out.mono ?_)
            rintro e w4 ⟨b4, h4a⟩
            rcases h4a with ⟨m2, g4, _, _, _, hm2, he2⟩ | ⟨rfl, _⟩
            · have := many_pos hm2 he2
              rw [HGT.out, HX.out.1] at this
              exact absurd this (by omega)
            · have HB4 := Lib.hid (Below.on HB3.out b4)
              have HF4 := Lib.hid (HF3.out.keep b4)
              have HFG4 := Lib.hid (HFG3.out.keep b4)
              clear b4 CSG
              have CC := Lib.hid (ccount_any (fcap := fcap) 1048576 HF4.out HMAY.out (by omega) (by omega) (fun c hc => by have := HFS.out c hc; omega) (by decide) (by decide))
              go_wp2_with fail
              (with_reducible refine CC.out.mono ?_)
              rintro e w5 ⟨rfl, b5⟩
              rw [show min (1048576 : Int) (many K f) = (0 : Int) by have := HX.out; omega]
              have HB5 := Lib.hid (Below.on HB4.out b5)
              have HFG5 := Lib.hid (HFG4.out.keep b5)
              have CCG := Lib.hid (by
                have h := ccount_any (fcap := gc) 1048576 HFG5.out HGM.out (by omega) (by rw [HGL.out]; omega) (fun c hc => by have := HGC.out c hc; omega) (by decide) (by decide)
                rw [HGL.out] at h; exact h)
              clear b5 CC
              go_wp2_with fail
              (with_reducible refine CCG.out.mono ?_)
              rintro e w6 ⟨rfl, b6⟩
              have HB6 := Lib.hid (Below.on HB5.out b6)
              rw [show min (1048576 : Int) (many K g) = (0 : Int) by have := HX.out; have := HGT.out; omega]
              clear b6 CCG
              go_wp2_with fail
              go_ret
              exact ⟨rfl, HB6.out⟩
        | succ j =>
          obtain rfl : x = (j : Int) := by omega
          obtain ⟨wo, rfl⟩ : ∃ wo, wo = wr := ⟨_, rfl⟩
          obtain ⟨c, hc⟩ : ∃ c, f[j]? = some c := ⟨_, List.getElem?_eq_getElem (by omega)⟩
          have hcl : c.length ≤ 400 := HFS.out c (List.mem_of_getElem? hc)
          obtain ⟨a, B, bcap, rfl, hce, hsb, _⟩ := (HF.out.keep R.out.below).get j c hc
          have ha := (HF.out.keep R.out.below).lt a rfl
          have HSB := Lib.hid hsb
          have HOK : Hid (∀ l ∈ c, Wf l ∧ okL (K : Int) l = true) := fun l hl => ⟨HF0.out.wf c (List.mem_of_getElem? hc) l hl, may_lit HMAY.out c (List.mem_of_getElem? hc) l hl⟩
          have hjf : (j : Int) < (f.length : Int) := by omega
          have R0 : Hid (LRel wo wo 3 (.slice none 0 0) (ints ((c.map (rn K (flB a2))).take 0))) := LRel.nil wo _
          have HC := Lib.hid hc
          clear hc hsb hx
          go_wp2_with fail
          go_loopw [10, 11] (fun cv qv wr => ∃ (q : Nat) (C : Option Addr) (cc : Nat), q ≤ c.length ∧ qv = .int .i64 q ∧ cv = .slice C q cc ∧ Hid (LRel wo wr 3 (.slice C q cc) (ints ((c.map (rn K (flB a2))).take q)))) (fun _ qv _ => c.length - (intOf qv).toNat)
          case atStart => exact ⟨0, none, 0, Nat.zero_le _, rfl, rfl, R0⟩
          case round =>
            obtain ⟨q, C, cc, hq, rfl, rfl, S⟩ := hrel
            clear R0
            have hca : wr.cell? (a.add j) = some (.slice B c.length bcap) := (S.out.below.cell (p := a.add j) (by rw [add_block]; exact ha)).trans hce
            by_cases hlt : q < c.length
            · obtain ⟨l, hl⟩ : ∃ l, c[q]? = some l := ⟨_, List.getElem?_eq_getElem hlt⟩
              obtain ⟨aB, rfl, hcb⟩ := (HSB.out.keep S.out.below).get q l hl
              have hqc : (q : Int) < (c.length : Int) := by omega
              obtain ⟨hlw, hlo⟩ := HOK.out l (List.mem_of_getElem? hl)
              have hbd := rnv_bd (by omega) hlw hlo
              have hol := ok_lit (by omega) hlw hlo
              have hol2 : 1 ≤ max l (-l) ∧ max l (-l) ≤ K := by omega
              have hm : (c.map (rn K (flB a2)))[q]? = some (rn K (flB a2) l) := by rw [List.getElem?_map, hl]; rfl
              have HTK := Lib.hid (taken_snoc hm)
              have hmx : max l (-l) = numb l := by omega
              have HO : Hid (wr.ownsRow wo.heap.size 3 1 (.slice C q cc) q (ints ((c.map (rn K (flB a2))).take q))) := by
                have := S.out.own
                rw [show (ints ((c.map (rn K (flB a2))).take q)).length = q by rw [List.length_map, List.length_take, List.length_map]; omega] at this; exact this
              have HSZ := Lib.hid S.out.below.size
              have HLN := Lib.hid (show (ints ((c.map (rn K (flB a2))).take q)).length = q by rw [List.length_map, List.length_take, List.length_map]; omega)
              have hrc := rn_cases (n := K) (fl := flB a2) (l := l)
              have hrv : rnv K l = (K : Int) + 1 - max l (-l) := by rw [hmx]; rfl
              cases hb : (decide (0 < l) == flB a2 (rnv K l).toNat) with
              | true =>
                have hb' : (decide (0 < l) == (bits BinOp.and IntKind.u16 (a2 / 2 ^ ((K : Int) + 1 - max l (-l)).toNat) 1 == 1)) = true := by rw [← hrv]; exact hb
                have HV : Hid (rn K (flB a2) l = -((K : Int) + 1 - max l (-l))) := Lib.hid (by
                  rcases hrc with ⟨_, e⟩ | ⟨e, _⟩
                  · rw [e, hrv]
                  · exact absurd (by simpa using hb) e)
                have HMX := Lib.hid hmx
                clear hb hrc hrv hlo hm hl hmx hol
                go_wp2_with (at_builtin; refine wpList_append_lies _ rfl _ _ _ rfl wo.heap.size 3 i1 _ 1 8 Tryz.underlying37 HJ.out.1 HJ.out.2.1 HJ.out.2.2.1 HJ.out.2.2.2 rfl (by omega) (.slice C q cc) q (ints ((c.map (rn K (flB a2))).take q)) rfl (HO.out.alloc _) ⟨wr.heap.size, 0, none⟩ 1 1 [.int .i64 _] rfl rfl (World.news_of_block (cs := #[.int .i64 _]) (t := 3) (fr := (0, 0)) (new_heap wr _)) (by simp [Value.oneCell']) (by omega) (by unfold maxLen; omega) (by omega) (by have := HSZ.out; simp; omega) (wr.heap.size + 1) (by simp) ?_; intro g1 c1 wp hown1 hg1 hat1 hlt1; have HO1 := Lib.hid hown1; have HG1 := Lib.hid hg1; clear hown1 hg1 hat1 hlt1)
                go_roundw
                case rel => exact ⟨q + 1, some ⟨g1, 0, none⟩, c1, by omega, by go_num, rfl, by
                  have hx := S.out.more (g := g1) (cap := c1) (by rw [HLN.out]; exact HO1.out) HG1.out
                  rw [HLN.out] at hx
                  refine Lib.hid ?_
                  rw [HTK.out, HV.out]; simpa [List.map_append] using hx⟩
                case measure => simp [intOf]; omega
              | false =>
                have hb' : (decide (0 < l) == (bits BinOp.and IntKind.u16 (a2 / 2 ^ ((K : Int) + 1 - max l (-l)).toNat) 1 == 1)) = false := by rw [← hrv]; exact hb
                have HV : Hid (rn K (flB a2) l = (K : Int) + 1 - max l (-l)) := Lib.hid (by
                  rcases hrc with ⟨e, _⟩ | ⟨_, e⟩
                  · rw [e] at hb; simp at hb
                  · rw [e, hrv])
                have HMX := Lib.hid hmx
                clear hb hrc hrv hlo hm hl hmx hol
                go_wp2_with (at_builtin; refine wpList_append_lies _ rfl _ _ _ rfl wo.heap.size 3 i1 _ 1 8 Tryz.underlying37 HJ.out.1 HJ.out.2.1 HJ.out.2.2.1 HJ.out.2.2.2 rfl (by omega) (.slice C q cc) q (ints ((c.map (rn K (flB a2))).take q)) rfl (HO.out.alloc _) ⟨wr.heap.size, 0, none⟩ 1 1 [.int .i64 _] rfl rfl (World.news_of_block (cs := #[.int .i64 _]) (t := 3) (fr := (0, 0)) (new_heap wr _)) (by simp [Value.oneCell']) (by omega) (by unfold maxLen; omega) (by omega) (by have := HSZ.out; simp; omega) (wr.heap.size + 1) (by simp) ?_; intro g1 c1 wp hown1 hg1 hat1 hlt1; have HO1 := Lib.hid hown1; have HG1 := Lib.hid hg1; clear hown1 hg1 hat1 hlt1)
                go_roundw
                case rel => exact ⟨q + 1, some ⟨g1, 0, none⟩, c1, by omega, by go_num, rfl, by
                  have hx := S.out.more (g := g1) (cap := c1) (by rw [HLN.out]; exact HO1.out) HG1.out
                  rw [HLN.out] at hx
                  refine Lib.hid ?_
                  rw [HTK.out, HV.out]; simpa [List.map_append] using hx⟩
                case measure => simp [intOf]; omega
            · obtain rfl : q = c.length := by omega
              obtain ⟨y, hy⟩ : ∃ y : Int, (j : Int) - 1 = y := ⟨_, rfl⟩
              have hwy : IntKind.i64.wrap ((j : Int) - 1) = y := by rw [IntKind.wrap_i64]; omega
              have HY := Lib.hid hy
              obtain ⟨d, hd⟩ : ∃ d, c.map (rn K (flB a2)) = d := ⟨_, rfl⟩
              have hdl : d.length = c.length := by rw [← hd, List.length_map]
              have HSN := Lib.hid (rnF_snoc (n := K) (fl := flB a2) HC.out)
              have S2 : Hid (LRel wo wr 3 (.slice C d.length cc) (ints d)) := Lib.hid (by
                have h := S.out
                rw [hd, ← hdl, List.take_length] at h; exact h)
              have HDL := Lib.hid hdl
              have HRI : Hid (wr.ownsRow w1.heap.size 37 1 (.slice G L gc) L news) := Lib.hid (by
                have h := row_belowU R.out.own S.out.below
                rwa [hnl] at h)
              have HSZ := Lib.hid (Nat.le_trans R.out.below.size S.out.below.size)
              rw [hd] at HSN
              have HNL := Lib.hid hnl
              clear hd hdl hy S hnl
              go_wp2_with (at_builtin; refine wpList_append_lies _ rfl _ _ _ rfl w1.heap.size 37 i0 _ 1 24 Tryz.underlying22 HI.out.1 HI.out.2.1 HI.out.2.2.1 HI.out.2.2.2 rfl (by omega) (.slice G L gc) L news rfl (HRI.out.alloc _) ⟨wr.heap.size, 0, none⟩ 1 1 [.slice C c.length cc] rfl rfl (World.news_of_block (cs := #[.slice C c.length cc]) (t := 37) (fr := (0, 0)) (new_heap wr _)) (by simp [Value.oneCell']) (by omega) (by unfold maxLen; omega) (by omega) (by have := HSZ.out; simp; omega) (wr.heap.size + 1) (by simp) ?_; intro g1 c1 wp hown1 hg1 hat1 hlt1; have HO1 := Lib.hid hown1; have HG1 := Lib.hid hg1; clear hown1 hg1 hat1 hlt1)
              have HNX := Lib.hid (rows_next R.out HNL.out RW.out S2.out HG1.out (by rw [HDL.out]; exact HO1.out))
              rw [HDL.out] at HNX
              go_roundw
              case rel => exact ⟨j, L + 1, y, some ⟨g1, 0, none⟩, c1, news ++ [.slice C c.length cc], by omega, by have := HY.out; omega, rfl, rfl, by have := HNL.out; simp; omega, Lib.hid HNX.out.1, Lib.hid (by rw [HSN.out]; exact HNX.out.2)⟩
              case measure => have := HY.out; simp [intOf]; omega
  · have hs2 := decide_eq_false hs
    rw [hs2] at cs
    go_wp2_with (go_at_call 12; ((with_reducible refine cs.out.mono ?_); rintro e w' ⟨rfl, rfl⟩))
    go_ret
    exact ⟨rfl, HB1.out⟩

set_option maxRecDepth 100000 in
theorem contract (H : Type) (enc : TypeId × Value → H) (W : World) (base : Nat) (args : Array Value) (ds gs : List (DataW H)) (before : List MemPlace)
    (hval : ∀ (j : Nat) t v, Tryz.f6.params[j]? = some t → args[j]? = some v → Value.okWide Tryz.prog W .any base t v)
    (hW : DataW.Whole enc Tryz.prog Tryz.f6.params.toList Rows.dpllNamesSpec.vars false W args.toList ds gs before) (hk : Rows.uptoSmall H (ds ++ gs) = true) :
    Calls Tryz.prog 6 args W fun e W' => ∃ v, e = .returned v ∧ Rows.dpllNamesSpec.post enc Tryz.prog Tryz.f6 false true false false W args v W' := by
  have hW' := hW
  obtain ⟨p, q, hA0, hV, rfl, hfz, hnd⟩ := hW
  have hA : DataW.TrodAll enc Tryz.prog W 0 (fun _ => true) true Tryz.f6.params.toList args.toList ds p := hA0
  rw [Tryz.params6] at hA hval
  obtain ⟨v0, vs0, d0, ds0, p0, q0, hargs, rfl, rfl, h0, r0⟩ := trodAll_cons hA
  obtain ⟨v1, vs1, d1, ds1, p1, q1, rfl, rfl, rfl, h1, r1⟩ := trodAll_cons r0
  obtain ⟨v2, vs2, d2, ds2, p2, q2, rfl, rfl, rfl, h2, r2⟩ := trodAll_cons r1
  obtain ⟨rfl, rfl, rfl⟩ := trodAll_nil r2
  obtain rfl : args = #[v0, v1, v2] := by cases args; simp_all
  obtain ⟨rfl, rfl⟩ := trodVars_none hV
  simp only [List.append_nil] at hW' hk
  have hb : Rows.uptoBulkAll [d0, d1, d2] ≤ 1048576 := of_decide_eq_true hk
  simp only [Rows.uptoBulkAll] at hb
  obtain ⟨a0, rfl, rfl, rfl, w0⟩ := open_int Tryz.underlying5 (hval 0 5 v0 rfl rfl) h0
  have w1 : FormN W v1 := ⟨form_b Tryz.underlying22 Tryz.underlying37 Tryz.underlying3 cellsRow cellsInt (hval 1 22 v1 rfl rfl) h1 (by omega), nil_form Tryz.underlying22 (hval 1 22 v1 rfl rfl)⟩
  obtain ⟨a2, rfl, rfl, rfl, w2⟩ := open_int Tryz.underlying39 (hval 2 39 v2 rfl rfl) h2
  clear hA0
  have hlt := hW'.lt
  refine (walk a0 v1 a2 W w0 w1 w2).mono fun e W' ⟨he, hg⟩ => ?_
  subst he
  exact ⟨_, rfl, post_kept hW' hg (fun _ _ _ => (trodAll_cons_mk (shut_bool Tryz.underlying4 _) trodAll_mk0)) (fun sp hsp => (trodAll_cons_mk (shut_int Tryz.underlying5 w0) (trodAll_cons_mk (WideElems.Trod_stays laidOut (by kernel_rfl) (of_decide_eq_true (by kernel_rfl)) h1 (fun x hx => hg.same (hlt x (by first | exact hx | (simp; first | exact .inl hx | exact .inr hx | exact hx | exact .inr (.inl hx) | exact .inr (.inr hx))))) (fun x hx => hsp x (by first | exact hx | (simp; first | exact .inl hx | exact .inr hx | exact hx | exact .inr (.inl hx) | exact .inr (.inr hx))))) (trodAll_cons_mk (shut_int Tryz.underlying39 w2) trodAll_mk0)))) (fun _ _ => rfl) (by first | rfl | simp)
    (ok_one (by kernel_rfl) rfl (okWide_bool_mk Tryz.underlying4 _))⟩
set_option maxRecDepth 100000 in
theorem lifted (os : Os) (started : os.Started) (H : Type) (enc : TypeId × Value → H) (F : Stop.Interp) :
    ReturnsInHanded {} Tryz.checked os 6 .any ((Rows.OpenSpec.upto Rows.dpllNamesSpec).pre6 enc Tryz.prog Tryz.f6 Rows.dpllNamesUptoRow.domain false) (((Rows.OpenSpec.upto Rows.dpllNamesSpec).at F).post enc Tryz.prog Tryz.f6 false true false false) := by
  refine returnsInHanded_of_cond (C := Tryz.checked) (s := Rows.OpenSpec.upto Rows.dpllNamesSpec) (k := Rows.uptoSmall) rfl own started (by kernel_rfl) Tryz.func6
    (OpenSpec.witness (enc := enc) (C := Tryz.checked) (s := Rows.OpenSpec.upto Rows.dpllNamesSpec) (k := Rows.uptoSmall) rfl false ⟨#[], #[.int .u8 0, .slice none 0 0, .int .u16 0], []⟩ 8 (by kernel_rfl) (by kernel_rfl) (by kernel_rfl)
      (x := ([.lit (.int .u8 0), .nil, .lit (.int .u16 0)], [], [])) (by kernel_rfl) rfl (by kernel_rfl)) ?_
  intro W base args ds gs before hval hW _ hk _
  exact contract H enc W base args ds gs before hval hW hk

theorem proved : Rows.DpllNamesUptoSaid :=
  OpenClaim.holds_of_cond 6 Tryz.f6 rfl rfl rfl rfl rfl rfl rfl ⟨rfl, rfl, rfl, rfl, rfl⟩ rfl rfl rfl rfl rfl (by kernel_rfl) Tryz.func6 (by kernel_rfl)
    (of_decide_eq_true (by kernel_rfl)) (by unfold Func.isWrapper; first | (rw [if_pos (by decide +kernel)]; kernel_rfl) | (rw [if_neg (by decide +kernel)]; exact ⟨rfl, rfl⟩))
    (fun os started H enc _ F => lifted os started H enc F)
#print axioms proved
end Go.Proofs.YtcebpbjpbnfacaaGreat.dpllNames
