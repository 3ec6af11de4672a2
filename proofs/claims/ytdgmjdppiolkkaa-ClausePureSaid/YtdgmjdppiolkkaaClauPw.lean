/-
  Part of the law ClausePure: its walk.
-/
import Derived.Test.YtdgmjdppiolkkaaClauPm
import Derived.Test.YtdgmjdppiolkkaaClauW
import Derived.Test.YtdgmjdppiolkkaaClauR
import Derived.ProofKit
namespace Go.Proofs.Ytdgmjdppiolkkaa.clausePure
open Go.ChangeShapes Go.WideShapes Go.ChangeAt Go.RowKit
set_option linter.unusedVariables false

theorem revalB {A : Option Addr} {f : List (List Int)} {fcap : Nat} {B : Option Addr} {m : List Bool} {cap : Nat} {w : World} (hf : FormAt w A f) (hn : f.length ≤ 9223372036854775807) (hm : SeqAt Value.bool w B m) (hl : m.length ≤ 9223372036854775807) {r : Bool} (hr : evalM m f = r) :
    Calls Try.prog 14 #[.slice A f.length fcap, .slice B m.length cap] w fun e w' => e = .returned (.bool r) ∧ w = w' := by subst hr; exact reval_any A f fcap B m cap w hf hn hm hl
theorem rmayB {n : Int} {A : Option Addr} {f : List (List Int)} {fcap : Nat} {w : World} (hn : Wf n) (hf : FormAt w A f) (hl : f.length ≤ 9223372036854775807) {r : Bool} (hr : mayM n f = r) :
    Calls Try.prog 11 #[.int .i64 n, .slice A f.length fcap] w fun e w' => e = .returned (.bool r) ∧ w = w' := by subst hr; exact rmay_any n A f fcap w hn hf hl
theorem revalK {A : Option Addr} {f : List (List Int)} {fcap : Nat} {B : Option Addr} {m : List Bool} {n cap : Nat} {w : World} (hf : FormAt w A f) (hn : f.length ≤ 9223372036854775807) (hm : SeqAt Value.bool w B m) (hk : m.length = n) (hl : m.length ≤ 9223372036854775807) {r : Bool} (hr : evalM m f = r) :
    Calls Try.prog 14 #[.slice A f.length fcap, .slice B n cap] w fun e w' => e = .returned (.bool r) ∧ w = w' := by subst hr; subst hk; exact reval_any A f fcap B m cap w hf hn hm hl
theorem infoBool : (Try.prog.info? 4).map (fun i => (i.zero, i.size, i.bytes)) = some (some (.bool false), 1, 1) := by kernel_rfl
abbrev bools (l : List Bool) : List Value := l.map Value.bool
theorem byte_of {n : Int} (h : (Lit.int .u8 n).wf = true) : 0 ≤ n ∧ n ≤ 255 := by
  simp only [Lit.wf, IntKind.min, IntKind.max, IntKind.signed, IntKind.bits, Bool.and_eq_true, decide_eq_true_eq, Bool.false_eq_true, if_false] at h
  omega
theorem part_form {w : World} {a : Addr} {f : List (List Int)} (h : FormAt w (some a) f) {i : Nat} {c : List Int} (hc : f[i]? = some c) : FormAt w (some (a.add i)) [c] := by
  refine ⟨fun j d hd => ?_, fun b hb => by injection hb with hb; subst hb; rw [add_block]; exact h.lt a rfl, fun d hd => by simp at hd; subst hd; exact h.wf _ (List.mem_of_getElem? hc)⟩
  have hj := (List.getElem?_eq_some_iff.1 hd).1
  obtain rfl : j = 0 := by simpa using hj
  simp at hd; subst hd
  obtain ⟨a', B, cap, ha, hce, hs, hl⟩ := h.get i _ hc
  injection ha with ha; subst ha
  exact ⟨_, B, cap, rfl, by rw [show (a.add i).add 0 = a.add i by unfold Addr.add; rfl]; exact hce, hs, hl⟩
theorem eval_one (m : List Bool) (c : List Int) : evalM m [c] = evalC m c := by unfold evalM; simp
theorem nil_form {P : Program} {W : World} {base : Nat} {t e : TypeId} (ht : P.underlying t = some (.slice e)) {v : Value} (h : Value.okWide P W .any base t v) : ∀ n c, v = .slice none n c → n = 0 ∧ c = 0 := by
  intro n c hv
  rcases slice_ok ht h with h0 | ⟨a, len, cap, h0, _⟩
  · rw [h0] at hv; injection hv with _ h1 h2; exact ⟨h1.symm, h2.symm⟩
  · rw [h0] at hv; cases hv
theorem len_cap {P : Program} {W : World} {base : Nat} {t e : TypeId} (ht : P.underlying t = some (.slice e)) {v : Value} (h : Value.okWide P W .any base t v) : ∀ A n c, v = .slice A n c → n ≤ c := by
  intro A n c hv
  rcases slice_ok ht h with h0 | ⟨a, len, cap, h0, h1, _⟩
  · rw [h0] at hv; injection hv with _ h1 h2; omega
  · rw [h0] at hv; injection hv with _ h2 h3; omega
def FormIn2 (W : World) (v : Value) : Prop := FormIn W v ∧ ∀ A n c, v = .slice A n c → n ≤ c
def BoolsIn2 (W : World) (v : Value) : Prop := BoolsIn W v ∧ ∀ n c, v = .slice none n c → n = 0 ∧ c = 0
structure XRel (w wr : World) (X : Option Addr) (cap : Nat) (x : List Bool) (k : Nat) : Prop where
  own : wr.ownsRow w.heap.size 4 1 (.slice X k cap) k (bools x)
  below : Below w.heap.size w wr
theorem XRel.put {w wr : World} {g cap k : Nat} {x : List Bool} (h : XRel w wr (some ⟨g, 0, none⟩) cap x k) (j : Nat) (b : Bool) : XRel w (wr.setCell ⟨g, j, none⟩ (.bool b)) (some ⟨g, 0, none⟩) cap (x.set j b) k := by
  have hs := World.ownsRow.stored h.own j (.bool b)
  refine ⟨by have := hs.1; unfold bools at *; rw [List.map_set]; exact this, h.below.grown hs.2 h.below.size fun q hq => ?_⟩
  injection hq with hq
  rcases h.own.2 with ⟨h0, _⟩ | ⟨g', c, cur, h0, hb, _⟩
  · cases h0
  · injection h0 with h0; injection h0 with h0; injection h0 with h0; omega
theorem XRel.drew {w wr : World} {X : Option Addr} {cap k : Nat} {x : List Bool} (h : XRel w wr X cap x k) (n : Nat) : XRel w (wr.drewN n) X cap x k := ⟨h.own, Below.draws h.below n⟩
theorem XRel.cell {w wr : World} {g cap k : Nat} {x : List Bool} (h : XRel w wr (some ⟨g, 0, none⟩) cap x k) {j : Nat} (hj : j < k) : ∃ b, wr.cell? ⟨g, j, none⟩ = some (.bool b) ∧ wr.frozen? ⟨g, j, none⟩ = false := by
  have hl : x.length = k := by have := h.own.1; simpa using this
  obtain ⟨b, hb⟩ : ∃ b, x[j]? = some b := ⟨_, List.getElem?_eq_getElem (by omega)⟩
  exact ⟨b, by rw [World.ownsRow.cellAt h.own j (by omega), List.getElem?_map, hb]; rfl, World.ownsRow.frozenAt h.own j⟩
theorem XRel.some {w wr : World} {X : Option Addr} {cap k : Nat} {x : List Bool} (h : XRel w wr X cap x k) (hk : 0 < k) : ∃ g, X = some ⟨g, 0, none⟩ ∧ g < wr.heap.size := by
  rcases h.own.2 with ⟨_, h0⟩ | ⟨g, c, cur, h0, _, hg, _⟩
  · omega
  · injection h0 with h0; exact ⟨g, h0, lt_of_heap hg⟩
theorem XRel.of {w W w' : World} {v : Value} {n : Nat} {x : List Bool} (hb : Below w.heap.size w W) (hg : W.grownBy w' (Option.some w.heap.size)) (ho : w'.ownsRow w.heap.size 4 1 v n (bools x)) : ∃ X cap, v = .slice X n cap ∧ XRel w w' X cap x n := by
  have hb' := hb.grown hg hb.size (fun k hk => by injection hk with hk; omega)
  rcases ho.2 with ⟨h0, h1⟩ | ⟨g, c, cur, h0, _⟩
  · subst h0; subst h1; exact ⟨none, 0, rfl, ⟨ho, hb'⟩⟩
  · exact ⟨_, c, h0, ⟨by rw [← h0]; exact ho, hb'⟩⟩
theorem max_step {m : List Bool} {p : List Int} {i : Nat} {l : Int} (h : p[i]? = some l) : fixB m (p.take (i + 1)) = (fixB m (p.take i)).set ((numb l).toNat - 1) (decide (0 < l)) := by
  have hk := List.getElem?_eq_some_iff.1 h
  obtain ⟨hk, hk'⟩ := hk
  rw [List.take_succ_eq_append_getElem hk, fixB_snoc, hk']
set_option maxHeartbeats 3200000 in
set_option maxRecDepth 100000 in
theorem walk (a0 : Int) (v1 v2 : Value) (w : World) (h0 : (Lit.int .u8 a0).wf = true) (h1 : FormIn2 w v1) (h2 : BoolsIn2 w v2) :
    Calls Try.prog 7 #[.int .u8 a0, v1, v2] w fun e w' => e = .returned (.bool true) ∧ Below w.heap.size w w' := by
  obtain ⟨⟨A, f, cap, rfl, hf, hl⟩, hcap⟩ := h1
  have hfc : f.length ≤ cap := hcap _ _ _ rfl
  clear hcap
  obtain ⟨⟨B, m, mcap, rfl, hm, hml⟩, hnil⟩ := h2
  have HNL := Lib.hid hnil
  clear hnil
  obtain ⟨b0, b1⟩ := byte_of h0
  obtain ⟨u, rfl⟩ := Int.eq_ofNat_of_zero_le b0
  have hk1 : ((u : Nat) : Int).tmod 20 = ((u % 20 : Nat) : Int) := by rw [Int.tmod_eq_emod_of_nonneg (by omega)]; push_cast; rfl
  have hk2 : ((u : Nat) : Int) % 20 = ((u % 20 : Nat) : Int) := by push_cast; rfl
  have hk3 : u % 20 < 20 := Nat.mod_lt _ (by decide)
  generalize u % 20 = K at *
  have HF := Lib.hid hf
  have HM := Lib.hid hm
  clear hf hm h0
  have HWK := Lib.hid (show Wf (K : Int) by unfold Wf; omega)
  obtain ⟨i0, hi, hz0, hz1, hz2⟩ := info_parts infoBool
  have HI := Lib.hid (show _ ∧ _ ∧ _ ∧ _ from ⟨hi, hz0, hz1, hz2⟩)
  clear hi hz0 hz1 hz2
  go_enter Try.func7, Try.ntmps7
  go_wp2_with fail
  refine (awake_any _).mono ?_
  rintro e w1 ⟨rfl, hb1⟩
  have HB1 := Lib.hid hb1
  have HF1 := Lib.hid (HF.out.keep hb1)
  have HM1 := Lib.hid (HM.out.keep hb1)
  clear hb1
  go_wp2_with fail
  refine (small_any A f cap 500 w1 HF1.out hl).mono ?_
  rintro e w2 ⟨b, rfl, rfl⟩
  cases b
  · go_wp2_with fail
    go_ret
    exact ⟨rfl, HB1.out⟩
  go_wp2_with fail
  cases ht : mayM K f
  · refine (rmayB HWK.out HF1.out hl ht).mono ?_
    rintro e w2 ⟨rfl, rfl⟩
    clear ht
    go_wp2_with fail
    go_ret
    exact ⟨rfl, HB1.out⟩
  refine (rmayB HWK.out HF1.out hl ht).mono ?_
  rintro e w2 ⟨rfl, rfl⟩
  have HT := Lib.hid ht
  clear ht
  by_cases hmk : m.length = K
  · have e1 : ((m.length : Int) == (K : Int)) = true := by rw [beq_iff_eq]; omega
    have e2 : ((m.length : Int) != (K : Int)) = false := by rw [bne_eq_false_iff_eq]; omega
    rw [hmk] at e1 e2 ⊢
    have HMK := Lib.hid hmk
    clear hmk
    go_wp2_with fail
    refine (pure_yes K A f cap w1 HF1.out hl HT.out).mono ?_
    rintro e w2 ⟨P, pcap, rfl, hp, hb2⟩
    have HB2 := Lib.hid (Below.on HB1.out hb2)
    have HF2 := Lib.hid (HF1.out.keep hb2)
    have HM2 := Lib.hid (HM1.out.keep hb2)
    have HP2 := Lib.hid hp
    clear hp hb2
    have HO := Lib.hid (World.ownsRow_lit (base := w2.heap.size) (e := 4) (size := 1) w2 #[] 0 (Nat.le_refl _) (Nat.zero_le _) rfl)
    have hpl := pureTo_len f K
    have HPM := Lib.hid (fun l (hl : l ∈ pureTo f K) => pure_mem hl)
    have HKA := Lib.hid (fun (c : List Int) (hc : c ∈ f) (h : evalC m c = true) => keep_all (m := m) (f := f) (k := K) (by rw [HMK.out]; exact Nat.le_refl _) (by omega) hc (HF.out.wf c hc) h (pureTo f K) (fun l hl => hl))
    rcases B with _ | ad
    · obtain ⟨hm0, hc0⟩ := HNL.out _ _ rfl
      have hK : K = 0 := by have := HMK.out; omega
      have HMN := Lib.hid (show m = [] from List.eq_nil_of_length_eq_zero hm0)
      subst hK
      subst hc0
      go_wp2_with (at_builtin; refine wpList_append_own_none _ rfl _ _ _ rfl w2.heap.size 4 i0 1 Try.underlying23 HI.out.1 (.slice (some ⟨w2.heap.size, 0, none⟩) 0 0) 0 [] rfl HO.out rfl ?_)
      have HX : Hid (XRel w2 (w2.alloc (.cells #[] 4)) (some ⟨w2.heap.size, 0, none⟩) 0 m 0) := ⟨by rw [HMN.out]; exact HO.out, below_alloc w2 _⟩
      have HG : Hid True := trivial
      go_wp2_with fail
      go_loopw [10] (fun i wx => ∃ k : Nat, k ≤ (pureTo f 0).length ∧ i = .int .i64 k ∧ Hid (XRel w2 wx (some ⟨w2.heap.size, 0, none⟩) 0 (fixB m ((pureTo f 0).take k)) 0)) (fun i _ => (pureTo f 0).length - (intOf i).toNat)
      case atStart => exact ⟨0, by omega, rfl, HX.out⟩
      case round =>
        obtain ⟨k, hk, rfl, R⟩ := hrel
        by_cases hkl : k < (pureTo f 0).length
        · exfalso
          have : (pureTo f 0).length = 0 := rfl
          omega
        · obtain rfl : (pureTo f 0).length = k := by omega
          have HXE := Lib.hid (show XRel w2 wr (some ⟨w2.heap.size, 0, none⟩) 0 (fixB m (pureTo f 0)) 0 from by have := R.out; rw [List.take_length] at this; exact this)
          have HBX := Lib.hid (Below.on HB2.out R.out.below)
          have HFX := Lib.hid (HF.out.keep HBX.out)
          have HMX := Lib.hid (HM.out.keep HBX.out)
          have HXS := Lib.hid (seq_own HXE.out.own)
          have hfl : (fixB m (pureTo f 0)).length = 0 := by rw [fixB_len]; exact HMK.out
          have HFL := Lib.hid hfl
          clear hfl R hk hkl
          generalize fixB m (pureTo f 0) = x at *
          generalize wr = wo at *
          go_wp2_with fail
          go_loop [12] (fun i => ∃ t : Nat, t ≤ f.length ∧ i = .int .i64 t) (fun i => f.length - (intOf i).toNat)
          case atStart => exact ⟨0, by omega, rfl⟩
          case round =>
            obtain ⟨t, ht, rfl⟩ := hrel
            by_cases htl : t < f.length
            · obtain ⟨c, hz⟩ : ∃ c, f[t]? = some c := ⟨_, List.getElem?_eq_getElem htl⟩
              obtain ⟨a, C, ccap, rfl, hrest⟩ := HFX.out.get t c hz
              clear hrest
              have HPF := Lib.hid (part_form HFX.out hz)
              have hkc := HKA.out c (List.mem_of_getElem? hz)
              have c1 : (t : Int) + 1 ≤ (cap : Int) := by omega
              have c2 : ¬ cap = t := by omega
              have c3 : t < cap := by omega
              have c4 : (0 : Int) ≤ (t : Int) := by omega
              clear hz
              go_wp2_with fail
              cases hb : evalC m c
              · refine (revalK (A := some (a.add t)) (f := [c]) (fcap := cap - t) HPF.out (by simp) HMX.out HMK.out (by rw [HMK.out]; omega) (r := false) (by rw [eval_one]; exact hb)).mono ?_
                rintro e w4 ⟨rfl, rfl⟩
                clear hb hkc
                go_wp2_with fail
                go_round
                case rel => exact ⟨t + 1, by omega, by go_num⟩
                case measure => simp [intOf]; omega
              · refine (revalK (A := some (a.add t)) (f := [c]) (fcap := cap - t) HPF.out (by simp) HMX.out HMK.out (by rw [HMK.out]; omega) (r := true) (by rw [eval_one]; exact hb)).mono ?_
                rintro e w4 ⟨rfl, rfl⟩
                have HX2 := Lib.hid (hkc hb)
                clear hb hkc
                go_wp2_with fail
                refine (revalK (A := some (a.add t)) (f := [c]) (fcap := cap - t) HPF.out (by simp) HXS.out HFL.out (by rw [HFL.out]; omega) (r := true) (by rw [eval_one]; exact HX2.out)).mono ?_
                rintro e w4 ⟨rfl, rfl⟩
                go_wp2_with fail
                go_round
                case rel => exact ⟨t + 1, by omega, by go_num⟩
                case measure => simp [intOf]; omega
            · obtain rfl : f.length = t := by omega
              go_wp2_with fail
              go_ret
              exact ⟨rfl, HBX.out⟩
    · go_wp2_with (at_builtin; refine wpList_append_own _ rfl _ _ _ rfl w2.heap.size 4 i0 _ 1 1 Try.underlying23 HI.out.1 HI.out.2.1 HI.out.2.2.1 HI.out.2.2.2 rfl (by omega) (.slice (some ⟨w2.heap.size, 0, none⟩) 0 0) 0 [] rfl HO.out ad K mcap (bools m) rfl (by simp [HMK.out]) (fun j q hq => by
        have h2 := HM2.out.keep (below_alloc w2 (.cells #[] 4))
        rw [List.getElem?_map] at hq
        obtain ⟨z, hz, rfl⟩ := Option.map_eq_some_iff.1 hq
        obtain ⟨a2, ha2, hc2⟩ := h2.get j z hz
        injection ha2 with ha2; subst ha2; exact hc2) (fun q hq => by obtain ⟨z, _, rfl⟩ := List.mem_map.1 hq; rfl) (by unfold maxLen; omega) (by omega) (by simp) ?_; intro v3 w3 ho3 hg3 hiff; obtain ⟨X, xcap, rfl, hX⟩ := XRel.of (n := K) (x := m) (below_alloc w2 _) hg3 (by rw [Nat.zero_add] at ho3; exact ho3); have HX := Lib.hid hX; clear ho3 hg3 hiff hX)
      go_wp2_with fail
      go_loopw [10] (fun i wx => ∃ k : Nat, k ≤ (pureTo f K).length ∧ i = .int .i64 k ∧ Hid (XRel w2 wx X xcap (fixB m ((pureTo f K).take k)) K)) (fun i _ => (pureTo f K).length - (intOf i).toNat)
      case atStart => exact ⟨0, by omega, rfl, HX.out⟩
      case round =>
        obtain ⟨k, hk, rfl, R⟩ := hrel
        by_cases hkl : k < (pureTo f K).length
        · obtain ⟨l, hz⟩ : ∃ l, (pureTo f K)[k]? = some l := ⟨_, List.getElem?_eq_getElem hkl⟩
          have HS := Lib.hid (max_step (m := m) hz)
          obtain ⟨v, q1, q2, q3, q4⟩ := HPM.out l (List.mem_of_getElem? hz)
          clear q4
          obtain ⟨g, rfl, hg⟩ := R.out.some (by omega)
          obtain ⟨aP, rfl, hcp⟩ := (HP2.out.keep R.out.below).get k l hz
          obtain ⟨v', rfl⟩ : ∃ v', v = v' + 1 := ⟨v - 1, by omega⟩
          have hnl : (numb l).toNat - 1 = v' := by
            have hwl : Wf l := by unfold Wf; omega
            have := numb_cases hwl; omega
          rw [hnl] at HS
          obtain ⟨b, hcb, hfb⟩ := R.out.cell (j := v') (by omega)
          have HPUT := Lib.hid (fun n b => (R.out.drew n).put v' b)
          have i1 : (k : Int) < ((pureTo f K).length : Int) := by omega
          have i2 : (v' : Int) + 1 ≤ (K : Int) := by omega
          have i3 : (v' : Int) < (K : Int) := by omega
          have i4 : (0 : Int) ≤ (v' : Int) := by omega
          clear hz hnl
          obtain ⟨l2, hl2⟩ : ∃ l2 : Int, l2 = -l := ⟨_, rfl⟩
          have hN : IntKind.i64.wrap (-l) = l2 := by rw [hl2]; exact wrap_in (by omega) (by omega)
          rcases q3 with q3 | q3
          · have q5 : l = (v' : Int) + 1 := by omega
            have mx : max l l2 = l := by omega
            have m2 : (1 : Int) ≤ l := by omega
            have m3 : l ≤ (K : Int) := by omega
            have m4 : IntKind.i64.wrap (l - 1) = (v' : Int) := by rw [q5, show (v' : Int) + 1 - 1 = v' by omega]; exact wrap_in (by omega) (by omega)
            have e5 : l.toNat - 1 = v' := by omega
            have m5 : (0 : Int) < l := by omega
            have HSS := Lib.hid (HS.out.trans (congrArg _ (show decide (0 < l) = true from decide_eq_true m5)))
            clear q3 q5 hl2 hk
            go_wp2_with fail
            go_quiet (fail)
            go_wp2_with fail
            go_roundw
            case rel => exact ⟨k + 1, by omega, by go_num, by rw [HSS.out]; exact HPUT.out nq true⟩
            case measure => simp [intOf]; omega
          · have q5 : l2 = (v' : Int) + 1 := by omega
            have mx : max l l2 = l2 := by omega
            have m2 : (1 : Int) ≤ l2 := by omega
            have m3 : l2 ≤ (K : Int) := by omega
            have m4 : IntKind.i64.wrap (l2 - 1) = (v' : Int) := by rw [q5, show (v' : Int) + 1 - 1 = v' by omega]; exact wrap_in (by omega) (by omega)
            have e5 : l2.toNat - 1 = v' := by omega
            have m5 : l ≤ (0 : Int) := by omega
            have HSS := Lib.hid (HS.out.trans (congrArg _ (show decide (0 < l) = false from decide_eq_false (by omega))))
            clear q3 q5 hl2 hk
            go_wp2_with fail
            go_quiet (fail)
            go_wp2_with fail
            go_roundw
            case rel => exact ⟨k + 1, by omega, by go_num, by
              rw [HSS.out, show decide (0 < l) = false from decide_eq_false (by omega)]
              exact HPUT.out nq false⟩
            case measure => simp [intOf]; omega
        · obtain rfl : (pureTo f K).length = k := by omega
          have HXE := Lib.hid (show XRel w2 wr X xcap (fixB m (pureTo f K)) K from by have := R.out; rw [List.take_length] at this; exact this)
          have HBX := Lib.hid (Below.on HB2.out R.out.below)
          have HFX := Lib.hid (HF.out.keep HBX.out)
          have HMX := Lib.hid (HM.out.keep HBX.out)
          have HXS := Lib.hid (seq_own HXE.out.own)
          have hfl : (fixB m (pureTo f K)).length = K := by rw [fixB_len]; exact HMK.out
          have HFL := Lib.hid hfl
          clear hfl R hk hkl
          generalize fixB m (pureTo f K) = x at *
          generalize wr = wo at *
          go_wp2_with fail
          go_loop [12] (fun i => ∃ t : Nat, t ≤ f.length ∧ i = .int .i64 t) (fun i => f.length - (intOf i).toNat)
          case atStart => exact ⟨0, by omega, rfl⟩
          case round =>
            obtain ⟨t, ht, rfl⟩ := hrel
            by_cases htl : t < f.length
            · obtain ⟨c, hz⟩ : ∃ c, f[t]? = some c := ⟨_, List.getElem?_eq_getElem htl⟩
              obtain ⟨a, C, ccap, rfl, hrest⟩ := HFX.out.get t c hz
              clear hrest
              have HPF := Lib.hid (part_form HFX.out hz)
              have hkc := HKA.out c (List.mem_of_getElem? hz)
              have c1 : (t : Int) + 1 ≤ (cap : Int) := by omega
              have c2 : ¬ cap = t := by omega
              have c3 : t < cap := by omega
              have c4 : (0 : Int) ≤ (t : Int) := by omega
              clear hz
              go_wp2_with fail
              cases hb : evalC m c
              · refine (revalK (A := some (a.add t)) (f := [c]) (fcap := cap - t) HPF.out (by simp) HMX.out HMK.out (by rw [HMK.out]; omega) (r := false) (by rw [eval_one]; exact hb)).mono ?_
                rintro e w4 ⟨rfl, rfl⟩
                clear hb hkc
                go_wp2_with fail
                go_round
                case rel => exact ⟨t + 1, by omega, by go_num⟩
                case measure => simp [intOf]; omega
              · refine (revalK (A := some (a.add t)) (f := [c]) (fcap := cap - t) HPF.out (by simp) HMX.out HMK.out (by rw [HMK.out]; omega) (r := true) (by rw [eval_one]; exact hb)).mono ?_
                rintro e w4 ⟨rfl, rfl⟩
                have HX2 := Lib.hid (hkc hb)
                clear hb hkc
                go_wp2_with fail
                refine (revalK (A := some (a.add t)) (f := [c]) (fcap := cap - t) HPF.out (by simp) HXS.out HFL.out (by rw [HFL.out]; omega) (r := true) (by rw [eval_one]; exact HX2.out)).mono ?_
                rintro e w4 ⟨rfl, rfl⟩
                go_wp2_with fail
                go_round
                case rel => exact ⟨t + 1, by omega, by go_num⟩
                case measure => simp [intOf]; omega
            · obtain rfl : f.length = t := by omega
              go_wp2_with fail
              go_ret
              exact ⟨rfl, HBX.out⟩
  · have e1 : ((m.length : Int) == (K : Int)) = false := by rw [beq_eq_false_iff_ne]; omega
    have e2 : ((m.length : Int) != (K : Int)) = true := by rw [bne_iff_ne]; omega
    go_wp2_with fail
    go_ret
    exact ⟨rfl, HB1.out⟩
end Go.Proofs.Ytdgmjdppiolkkaa.clausePure
