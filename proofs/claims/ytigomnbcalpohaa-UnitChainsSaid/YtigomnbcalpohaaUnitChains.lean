/-
  The law UnitChains: a chain of so many that follow one from another is gone through to its end. No condition.
-/
import Derived.Test.YtigomnbcalpohaaUnitH
import Derived.BigRegion
import Derived.ProofKit
namespace Go.Proofs.Ytigomnbcalpohaa.unitChains
open Go.ChangeShapes Go.WideShapes Go.ChangeAt Go.RowKit
set_option linter.unusedVariables false

theorem new_first {W W' : World} {o o2 o3 : Obj} {g : Nat} (hg : W.heap.size = g) (he : W'.heap = (((W.alloc o).alloc o2).alloc o3).heap) : W'.heap[g]? = some o := by
  rw [he, ← hg]
  show (((W.heap.push o).push o2).push o3)[W.heap.size]? = _
  rw [Array.getElem?_push, if_neg (by simp; omega), Array.getElem?_push, if_neg (by simp), Array.getElem?_push, if_pos rfl]
theorem made_kept {X wp : World} {gm K : Nat} (h : wp.heap[gm]? = X.heap[gm]?) (hx : X.heap[gm]? = some (.cells (madeCells #[.int .i64 0] K) 3 (0, 0))) : SeqAt (Value.int .i64) wp (some ⟨gm, 0, none⟩) (List.replicate K 0) := by
  refine ⟨fun i z hz => ⟨_, rfl, ?_⟩⟩
  rw [add_at]
  unfold World.cell?
  rw [h, hx]
  have e : (madeCells #[Value.int .i64 0] K)[i]? = ((List.replicate K (0 : Int)).map (Value.int .i64))[i]? := by rw [← made_row (Value.int .i64)]; simp
  show (madeCells #[Value.int .i64 0] K)[i]? = _
  rw [e, List.getElem?_map, hz]; rfl
theorem put_apart {w : World} {b n cap g0 : Nat} {xs : List Value} (h : w.ownsRow b 23 1 (.slice (some ⟨g0, 0, none⟩) n cap) xs.length xs) (i : Nat) (u : Value) : ∀ (g : Nat) (cs : Array Value), w.heap[g]? = some (.cells cs 3 (0, 0)) → (w.setCell ⟨g0, i, none⟩ u).heap[g]? = w.heap[g]? := fun g cs hc => by
  refine Below.heap_setCell w ⟨g0, i, none⟩ u g fun e => ?_
  have e' : g = g0 := e
  subst e'
  rcases h.2 with ⟨h0, _⟩ | ⟨g', c, cur, h0, _, hh, _⟩
  · cases h0
  · injection h0 with h0 _ _; injection h0 with h0; injection h0 with h0
    subst h0
    rw [hc] at hh; injection hh with hh; injection hh with _ hh _
    exact absurd hh (by decide)
theorem fin1 {w w1 wp Y w6 : World} (h6 : Below Y.heap.size Y w6) (h1 : Below w.heap.size w w1) (h2 : Below w1.heap.size w1 wp) (h3 : Below wp.heap.size wp Y) : Below w.heap.size w w6 := Below.on h1 (Below.on h2 (Below.on h3 h6))
theorem u16_wf {a : Int} (h : (Lit.int .u16 a).wf = true) : 0 ≤ a ∧ a ≤ 65535 := by
  simp [Lit.wf, IntKind.min, IntKind.max, IntKind.signed, IntKind.bits] at h
  omega
theorem may_ch {k : Nat} {f : List (List Int)} (hk : k ≤ 65536) (h : FOk k f) : mayM (k : Int) f = true := by
  unfold mayM
  rw [Bool.and_eq_true]
  refine ⟨decide_eq_true (by omega), List.all_eq_true.2 fun c hc => List.all_eq_true.2 fun l hl => ?_⟩
  have := h c hc l hl
  unfold LOk at this
  exact (okL_ref (by omega) (by omega) (by unfold Wf; omega)).2 (by omega)
theorem row_below {w X : World} {b n : Nat} {e : TypeId} {v : Value} {xs : List Value} (h : w.ownsRow b e 1 v n xs) (k : Below w.heap.size w X) : X.ownsRow b e 1 v n xs := by
  refine ⟨h.1, ?_⟩
  rcases h.2 with h0 | ⟨g, c, cur, a, b, d, r⟩
  · exact .inl h0
  · exact .inr ⟨g, c, cur, a, b, (k.block g (lt_of_heap d)).trans d, r⟩
theorem chain_next {w1 wr X wp : World} {B : Option Addr} {j bcap g1 c1 gr : Nat} {vs : List Value} {gl : List (List Int)} {c : List Int} (R : LRel w1 wr 23 (.slice B j bcap) vs) (hvl : vs.length = j) (I : RowsI wr vs gl) (bX : Below wr.heap.size wr X) (hgr : X.heap[gr]? = some (.cells (ints c).toArray 3 (0, 0)))
    (hg1 : X.grownBy wp (Value.slice B j bcap).ownBlock) (hown1 : wp.ownsRow w1.heap.size 23 1 (.slice (some ⟨g1, 0, none⟩) (j + 1) c1) (j + 1) (vs ++ [.slice (some ⟨gr, 0, none⟩) c.length c.length])) :
    LRel w1 wp 23 (.slice (some ⟨g1, 0, none⟩) (j + 1) c1) (vs ++ [.slice (some ⟨gr, 0, none⟩) c.length c.length]) ∧ RowsI wp (vs ++ [.slice (some ⟨gr, 0, none⟩) c.length c.length]) (gl ++ [c]) ∧ (∀ (g : Nat) (cs : Array Value), X.heap[g]? = some (.cells cs 3 (0, 0)) → wp.heap[g]? = X.heap[g]?) := by
  have hX := row_below R.own bX
  rw [hvl] at hX
  have ap := own_apart hX hg1
  refine ⟨⟨by rw [List.length_append, hvl]; exact hown1, (R.below.trans (bX.mono R.below.size)).grown hg1 (Nat.le_trans R.below.size bX.size) (fun k hk => ?_)⟩, ?_, ap⟩
  · rcases R.own.2 with ⟨h0, _⟩ | ⟨g', c, cur, h0, hb, _⟩
    · rw [h0] at hk; simp [Value.ownBlock] at hk
    · rw [h0] at hk; simp [Value.ownBlock] at hk; omega
  · exact ((I.keep (fun g cs hc => bX.block g (lt_of_heap hc))).keep ap).snoc ((ap gr _ hgr).trans hgr)
set_option maxHeartbeats 3200000 in
set_option maxRecDepth 100000 in
theorem walk (a0 : Int) (b1 : Bool) (w : World) (h0 : (Lit.int .u16 a0).wf = true) (_ : True) :
    Calls Try.prog 7 #[.int .u16 a0, .bool b1] w fun e w' => e = .returned (.bool true) ∧ Below w.heap.size w w' := by
  obtain ⟨h3, h4⟩ := u16_wf h0
  obtain ⟨kn, hkn, hk2⟩ := rem_to a0 h3 400 (by decide)
  have hk' : a0.tmod 400 = (kn : Int) := hkn
  obtain ⟨K, hK⟩ : ∃ K : Nat, 1 + (kn : Int) = (K : Int) := ⟨1 + kn, by push_cast; rfl⟩
  have hK1 : 1 ≤ K := by omega
  have hK2 : K ≤ 400 := by omega
  have hmkI : ∀ w, (Instr.makeSlice 23 (.int .i64 (K : Int)) (.int .i64 (K : Int))).run Try.prog w = .ok (.slice (some ⟨w.heap.size, 0, none⟩) K K) (w.alloc (.cells (madeCells #[.int .i64 0] K) 3)) := fun w => run_make_row' (P := Try.prog) 23 3 (.int .i64 0) 8 Try.underlying23 infoInt rfl .i64 .i64 K (by omega) (by omega) w
  obtain ⟨i1, hi1, hy0, hy1, hy2⟩ := info_parts infoRow
  have HJ := Lib.hid (And.intro hi1 (And.intro hy0 (And.intro hy1 hy2)))
  clear h0 hkn hi1 hy0 hy1 hy2
  go_enter Try.func7, Try.ntmps7
  go_wp2_with fail
  refine (awake_any _).mono ?_
  rintro e w1 ⟨rfl, hb⟩
  have HB1 := Lib.hid hb
  clear hb
  have L4 : Hid (LRel w1 ((w1.alloc (.cells #[.int .i64 1] 3)).alloc (.cells #[.slice (some ⟨w1.heap.size, 0, none⟩) 1 1] 23)) 23 (.slice (some ⟨w1.heap.size + 1, 0, none⟩) 1 1) [.slice (some ⟨w1.heap.size, 0, none⟩) 1 1]) :=
    ⟨⟨rfl, .inr ⟨w1.heap.size + 1, 1, #[.slice (some ⟨w1.heap.size, 0, none⟩) 1 1], rfl, by omega, new_at (W := w1.alloc (.cells #[.int .i64 1] 3)) (by simp) rfl, Nat.le_refl _, by unfold maxLen; omega, rfl, rfl⟩⟩, ((Below.refl _ _).alloc (Nat.le_refl _) _).alloc (by simp) _⟩
  have I4 : Hid (RowsI ((w1.alloc (.cells #[.int .i64 1] 3)).alloc (.cells #[.slice (some ⟨w1.heap.size, 0, none⟩) 1 1] 23)) [.slice (some ⟨w1.heap.size, 0, none⟩) 1 1] (ch 1)) := by
    refine ⟨rfl, fun i c hc => ?_⟩
    have hi := (List.getElem?_eq_some_iff.1 hc).1
    have hc1 : ch 1 = [[1]] := rfl
    rw [hc1] at hc hi
    obtain rfl : i = 0 := by simpa using hi
    simp at hc; subst hc
    exact ⟨w1.heap.size, rfl, new_under (W := w1) rfl rfl⟩
  go_wp2_with fail
  go_loopw [6, 7] (fun v6 v7 wr => ∃ (j : Nat) (vs : List Value) (B : Option Addr) (bcap : Nat), 1 ≤ j ∧ j ≤ K ∧ v7 = .int .i64 j ∧ v6 = .slice B j bcap ∧ Hid (LRel w1 wr 23 (.slice B j bcap) vs) ∧ Hid (RowsI wr vs (ch j))) (fun _ v7 _ => K - (intOf v7).toNat)
  case atStart => exact ⟨1, _, _, 1, by omega, by omega, rfl, rfl, L4.out, I4.out⟩
  case round =>
    clear L4 I4
    obtain ⟨j, vs, B, bcap, hj1, hj, rfl, rfl, R, I⟩ := hrel
    by_cases hlt : j < K
    · have hvl : vs.length = j := by rw [I.out.1, ch_len hj1]
      obtain ⟨nj, hnj⟩ : ∃ nj, nj = -(j : Int) := ⟨_, rfl⟩
      have hnw : IntKind.i64.wrap (-(j : Int)) = nj := by rw [hnj]; exact wrap_in (by omega) (by omega)
      have HNX : Hid (∀ (wp : World) (g1 c1 : Nat), ((wr.alloc (.cells #[.int .i64 nj, .int .i64 ((j : Int) + 1)] 3)).alloc (.cells #[.slice (some ⟨wr.heap.size, 0, none⟩) 2 2] 23)).grownBy wp (Value.slice B j bcap).ownBlock → wp.ownsRow w1.heap.size 23 1 (.slice (some ⟨g1, 0, none⟩) (j + 1) c1) (j + 1) (vs ++ [.slice (some ⟨wr.heap.size, 0, none⟩) 2 2]) → LRel w1 wp 23 (.slice (some ⟨g1, 0, none⟩) (j + 1) c1) (vs ++ [.slice (some ⟨wr.heap.size, 0, none⟩) 2 2]) ∧ RowsI wp (vs ++ [.slice (some ⟨wr.heap.size, 0, none⟩) 2 2]) (ch (j + 1))) := fun wp g1 c1 hg ho => by
        obtain ⟨k1, k2, _⟩ := chain_next (c := lnk j) (gr := wr.heap.size) R.out hvl I.out (((Below.refl _ _).alloc (Nat.le_refl _) (.cells #[.int .i64 nj, .int .i64 ((j : Int) + 1)] 3)).alloc (by simp) (.cells #[.slice (some ⟨wr.heap.size, 0, none⟩) 2 2] 23)) (by rw [new_under (W := wr) (o := (.cells #[.int .i64 nj, .int .i64 ((j : Int) + 1)] 3)) (o2 := (.cells #[.slice (some ⟨wr.heap.size, 0, none⟩) 2 2] 23)) rfl rfl, hnj]; rfl) hg ho
        exact ⟨k1, by rw [ch_succ hj1]; exact k2⟩
      have HO : Hid (wr.ownsRow w1.heap.size 23 1 (.slice B j bcap) j vs) := by have := R.out.own; rw [hvl] at this; exact this
      have HSZ := Lib.hid R.out.below.size
      clear hvl hnj R I
      go_wp2_with (at_builtin; refine wpList_append_lies _ rfl _ _ _ rfl w1.heap.size 23 i1 _ 1 24 Try.underlying22 HJ.out.1 HJ.out.2.1 HJ.out.2.2.1 HJ.out.2.2.2 rfl (by omega) (.slice B j bcap) j vs rfl ((HO.out.alloc _).alloc _) ⟨wr.heap.size + 1, 0, none⟩ 1 1 [.slice (some ⟨wr.heap.size, 0, none⟩) 2 2] rfl rfl (World.news_of_block (cs := #[.slice (some ⟨wr.heap.size, 0, none⟩) 2 2]) (t := 23) (fr := (0, 0)) (new_at (W := wr.alloc (.cells #[.int .i64 nj, .int .i64 ((j : Int) + 1)] 3)) (by simp) rfl)) (by simp [Value.oneCell']) (by omega) (by unfold maxLen; omega) (by omega) (by have := HSZ.out; simp; omega) (wr.heap.size + 2) (by simp) ?_; intro g1 c1 wp hown1 hg1 hat1 hlt1; have HF1 := Lib.hid (HNX.out wp g1 c1 hg1 hown1); clear hown1 hg1 hat1 hlt1)
      go_roundw
      case rel => exact ⟨j + 1, _, some ⟨g1, 0, none⟩, c1, by omega, by omega, by go_num, rfl, HF1.out.1, HF1.out.2⟩
      case measure => simp [intOf]; omega
    · obtain rfl : K = j := by omega
      cases b1 with
      | false =>
        obtain ⟨gl, hgl⟩ : ∃ gl, gl = ch K := ⟨_, rfl⟩
        rw [← hgl] at I
        have HGL : Hid (gl.length = K) := by rw [hgl]; exact ch_len hK1
        have HM : Hid (∀ c, c ∈ gl ↔ c ∈ ch K) := fun c => by rw [hgl]
        have HCL : Hid (∀ c ∈ gl, c.length ≤ 2) := fun c hc => by rw [hgl] at hc; rcases (ch_mem c).1 hc with rfl | ⟨i, _, rfl⟩ <;> simp [lnk]
        clear hgl
        go_wp2_with fail
        have HFA : Hid (FormAt wr B gl) := own_form2 (n := K) (by have := R.out.own; rw [I.out.1, HGL.out] at this; exact this) (I.out.ok (fun c hc => by have := HCL.out c hc; omega)) (fun c hc l hl => by have := (ch_ok hK1 c ((HM.out c).1 hc) l hl); unfold LOk at this; unfold Wf; omega)
        have HB2 := Lib.hid (Below.on HB1.out R.out.below)
        have HMY : Hid (mayM (K : Int) gl = true) := may_ch (by omega) (fun c hc => ch_ok hK1 c ((HM.out c).1 hc))
        have hr1 := run_will (A := B) (M := some ⟨wr.heap.size, 0, none⟩) (f := gl) (m := List.replicate K 0) (fcap := bcap) (mcap := K) (n := (K : Int)) (W := wr.alloc (.cells (madeCells #[.int .i64 0] K) 3)) (r := some (some (List.replicate K 1))) (by unfold Wf; omega) (HFA.out.keep (below_alloc wr _)) (by rw [HGL.out]; omega) (fun c hc => by have := HCL.out c hc; omega) (made_at wr K rfl) (by simp; omega) (fun h => by cases h) ⟨fine_zeros HMY.out, by rw [List.length_replicate]; exact ch_ans hK1 HM.out⟩
        rw [List.length_replicate, HGL.out] at hr1
        have HR1 := Lib.hid hr1
        clear hr1
        go_wp2_with fail
        with_reducible refine HR1.out.mono ?_
        rintro e w5 ⟨hb5, tA, tcap, rfl, hts, _⟩
        have hb5' := Below.on (below_alloc wr (.cells (madeCells #[.int .i64 0] K) 3)) hb5
        have HB5 := Lib.hid (Below.on HB2.out hb5')
        have HT := Lib.hid hts
        have R5 : Hid (LRel w1 w5 23 (.slice B K bcap) vs) := ⟨row_below R.out.own hb5', R.out.below.trans (hb5'.mono R.out.below.size)⟩
        have I5 : Hid (RowsI w5 vs gl) := I.out.keep (fun g cs hc => hb5'.block g (lt_of_heap hc))
        rw [List.length_replicate]
        clear hb5 hb5' hts R I HR1 HFA
        go_wp2_with fail
        go_loop [12] (fun v => ∃ i : Nat, i ≤ K ∧ v = .int .i64 i) (fun v => K - (intOf v).toNat)
        case atStart => exact ⟨0, by omega, rfl⟩
        case round =>
          obtain ⟨i, hi, rfl⟩ := hrel
          by_cases hlt : i < K
          · obtain ⟨aT, rfl, hct⟩ := HT.out.get i 1 (ones_at hlt)
            have e1 : ((1 : Int) != 1) = false := by decide
            go_wp2_with fail
            go_round
            case rel => exact ⟨i + 1, by omega, by go_num⟩
            case measure => simp [intOf]; omega
          · obtain rfl : K = i := by omega
            obtain ⟨nK, hnK⟩ : ∃ nK, nK = -(K : Int) := ⟨_, rfl⟩
            have hnw : IntKind.i64.wrap (-(K : Int)) = nK := by rw [hnK]; exact wrap_in (by omega) (by omega)
            have HNK := Lib.hid hnK
            have hvl5 : vs.length = K := by rw [I5.out.1, HGL.out]
            have b5 : Below w5.heap.size w5 w5.drew := Below.draws (Below.refl _ _) 1
            have HOW : Hid (∀ X, Below w5.drew.heap.size w5.drew X → X.ownsRow w1.heap.size 23 1 (.slice B K bcap) K vs) := fun X b => by
              have := row_below (row_below R5.out.own b5) b; rw [hvl5] at this; exact this
            have HNX : Hid (∀ (X wp : World) (g1 c1 gr : Nat), Below w5.drew.heap.size w5.drew X → X.heap[gr]? = some (.cells #[.int .i64 nK] 3 (0, 0)) → X.grownBy wp (Value.slice B K bcap).ownBlock → wp.ownsRow w1.heap.size 23 1 (.slice (some ⟨g1, 0, none⟩) (K + 1) c1) (K + 1) (vs ++ [.slice (some ⟨gr, 0, none⟩) 1 1]) →
                FormAt wp (some ⟨g1, 0, none⟩) (gl ++ [[nK]]) ∧ Below w1.heap.size w1 wp ∧ (∀ (g : Nat) (cs : Array Value), X.heap[g]? = some (.cells cs 3 (0, 0)) → wp.heap[g]? = X.heap[g]?)) := fun X wp g1 c1 gr b hgr hg ho => by
              obtain ⟨k1, k2, k3⟩ := chain_next (c := [nK]) (gr := gr) R5.out hvl5 I5.out (b5.trans b) hgr hg ho
              refine ⟨own_form2 (n := K + 1) ho (k2.ok (fun c hc => ?_)) (fun c hc l hl => ?_), k1.below, k3⟩
              · rcases List.mem_append.1 hc with hc | hc
                · have := HCL.out c hc; omega
                · simp at hc; subst hc; simp
              · rcases List.mem_append.1 hc with hc | hc
                · have := (ch_ok hK1 c ((HM.out c).1 hc) l hl); unfold LOk at this; unfold Wf; omega
                · simp at hc; subst hc; simp at hl; subst hl; rw [hnK]; unfold Wf; omega
            have HRUN : Hid (∀ (Y : World) (Bf : Option Addr) (fc gm : Nat), FormAt Y Bf (gl ++ [[nK]]) → SeqAt (Value.int .i64) Y (some ⟨gm, 0, none⟩) (List.replicate K 0) → Calls Try.prog 12 #[.int .i64 (K : Int), .slice Bf (K + 1) fc, .slice (some ⟨gm, 0, none⟩) K K] Y (RunIs (some none) Y)) := fun Y Bf fc gm hf hm => by
              have hmay : mayM (K : Int) (gl ++ [[nK]]) = true := may_ch (by omega) (fun c hc => by
                rcases List.mem_append.1 hc with hc | hc
                · exact ch_ok hK1 c ((HM.out c).1 hc)
                · simp at hc; subst hc; intro l hl; simp at hl; subst hl; rw [hnK]; unfold LOk; omega)
              have := run_will (A := Bf) (M := some ⟨gm, 0, none⟩) (f := gl ++ [[nK]]) (m := List.replicate K 0) (fcap := fc) (mcap := K) (n := (K : Int)) (W := Y) (r := some none) (by unfold Wf; omega) hf (by rw [List.length_append, HGL.out]; simp; omega) (fun c hc => by
                rcases List.mem_append.1 hc with hc | hc
                · have := HCL.out c hc; omega
                · simp at hc; subst hc; simp) hm (by simp; omega) (fun h => by cases h) ⟨fine_zeros hmay, by rw [List.length_replicate, hnK]; exact ch_none hK1 HM.out⟩
              rw [List.length_replicate, List.length_append, HGL.out] at this
              exact this
            have HL1 : Hid (K + 1 ≤ maxLen) := by show K + 1 ≤ maxLen; unfold maxLen; omega
            have HL2 : Hid ((K + 1) * 24 ≤ 140737488355328) := by show (K + 1) * 24 ≤ 140737488355328; omega
            have HSZ := Lib.hid R5.out.below.size
            clear hnK hvl5 b5 R5 I5
            go_wp2_with fail
            go_region_law (first | (refine step_append_lies _ (by rfl) _ _ _ (by rfl) w1.heap.size 23 i1 _ 1 24 Try.underlying22 HJ.out.1 HJ.out.2.1 HJ.out.2.2.1 HJ.out.2.2.2 rfl (by omega) (.slice B K bcap) K vs (by rfl) (by exact row_alike (HOW.out ((w5.drew.alloc (.cells #[.int .i64 nK] 3)).alloc (.cells #[.slice (some ⟨w5.heap.size, 0, none⟩) 1 1] 23)) (((Below.refl _ _).alloc (Nat.le_refl _) _).alloc (by first | (simp; done) | (simp; omega)) _)) rfl) ⟨w5.heap.size + 1, 0, none⟩ 1 1 [.slice (some ⟨w5.heap.size, 0, none⟩) 1 1] (by rfl) (by rfl) (by exact World.news_of_block (cs := #[.slice (some ⟨w5.heap.size, 0, none⟩) 1 1]) (t := 23) (fr := (0, 0)) (new_at (W := w5.drew.alloc (.cells #[.int .i64 nK] 3)) (by first | rfl | simp) rfl)) (by simp [Value.oneCell']) (by omega) HL1.out HL2.out (by have := HSZ.out; simp; omega) (w5.heap.size + 2) (by simp) ?_; intro g1 c1 wpA hown1 hg1 hat1 hlt1; have H1A := Lib.hid (HNX.out ((w5.drew.alloc (.cells #[.int .i64 nK] 3)).alloc (.cells #[.slice (some ⟨w5.heap.size, 0, none⟩) 1 1] 23)) wpA g1 c1 (w5.heap.size) (((Below.refl _ _).alloc (Nat.le_refl _) _).alloc (by first | (simp; done) | (simp; omega)) _) (by exact new_under (W := w5.drew) rfl rfl) hg1 hown1); clear hown1 hg1 hat1 hlt1) | (refine step_append_lies _ (by rfl) _ _ _ (by rfl) w1.heap.size 23 i1 _ 1 24 Try.underlying22 HJ.out.1 HJ.out.2.1 HJ.out.2.2.1 HJ.out.2.2.2 rfl (by omega) (.slice B K bcap) K vs (by rfl) (by exact row_alike (HOW.out (((w5.drew.alloc (.cells (madeCells #[.int .i64 0] K) 3)).alloc (.cells #[.int .i64 nK] 3)).alloc (.cells #[.slice (some ⟨w5.heap.size + 1, 0, none⟩) 1 1] 23)) ((((Below.refl _ _).alloc (Nat.le_refl _) _).alloc (by first | (simp; done) | (simp; omega)) _).alloc (by first | (simp; done) | (simp; omega)) _)) rfl) ⟨w5.heap.size + 2, 0, none⟩ 1 1 [.slice (some ⟨w5.heap.size + 1, 0, none⟩) 1 1] (by rfl) (by rfl) (by exact World.news_of_block (cs := #[.slice (some ⟨w5.heap.size + 1, 0, none⟩) 1 1]) (t := 23) (fr := (0, 0)) (new_at (W := (w5.drew.alloc (.cells (madeCells #[.int .i64 0] K) 3)).alloc (.cells #[.int .i64 nK] 3)) (by first | rfl | simp) rfl)) (by simp [Value.oneCell']) (by omega) HL1.out HL2.out (by have := HSZ.out; simp; omega) (w5.heap.size + 3) (by simp) ?_; intro g1 c1 wpB hown1 hg1 hat1 hlt1; have H1B := Lib.hid (HNX.out (((w5.drew.alloc (.cells (madeCells #[.int .i64 0] K) 3)).alloc (.cells #[.int .i64 nK] 3)).alloc (.cells #[.slice (some ⟨w5.heap.size + 1, 0, none⟩) 1 1] 23)) wpB g1 c1 (w5.heap.size + 1) ((((Below.refl _ _).alloc (Nat.le_refl _) _).alloc (by first | (simp; done) | (simp; omega)) _).alloc (by first | (simp; done) | (simp; omega)) _) (by exact new_under (W := w5.drew.alloc (.cells (madeCells #[.int .i64 0] K) 3)) (by first | rfl | simp) rfl) hg1 hown1); have HSB := Lib.hid (made_kept (gm := w5.heap.size) (H1B.out.2.2 _ _ (by exact new_first (W := w5.drew) rfl rfl)) (by exact new_first (W := w5.drew) rfl rfl)); clear hown1 hg1 hat1 hlt1) | (refine step_append_lies _ (by rfl) _ _ _ (by rfl) w1.heap.size 23 i1 _ 1 24 Try.underlying22 HJ.out.1 HJ.out.2.1 HJ.out.2.2.1 HJ.out.2.2.2 rfl (by omega) (.slice B K bcap) K vs (by rfl) (by exact row_alike (HOW.out (((w5.drew.alloc (.cells #[.int .i64 nK] 3)).alloc (.cells (madeCells #[.int .i64 0] K) 3)).alloc (.cells #[.slice (some ⟨w5.heap.size, 0, none⟩) 1 1] 23)) ((((Below.refl _ _).alloc (Nat.le_refl _) _).alloc (by first | (simp; done) | (simp; omega)) _).alloc (by first | (simp; done) | (simp; omega)) _)) rfl) ⟨w5.heap.size + 2, 0, none⟩ 1 1 [.slice (some ⟨w5.heap.size, 0, none⟩) 1 1] (by rfl) (by rfl) (by exact World.news_of_block (cs := #[.slice (some ⟨w5.heap.size, 0, none⟩) 1 1]) (t := 23) (fr := (0, 0)) (new_at (W := (w5.drew.alloc (.cells #[.int .i64 nK] 3)).alloc (.cells (madeCells #[.int .i64 0] K) 3)) (by first | rfl | simp) rfl)) (by simp [Value.oneCell']) (by omega) HL1.out HL2.out (by have := HSZ.out; simp; omega) (w5.heap.size + 3) (by simp) ?_; intro g1 c1 wpC hown1 hg1 hat1 hlt1; have H1C := Lib.hid (HNX.out (((w5.drew.alloc (.cells #[.int .i64 nK] 3)).alloc (.cells (madeCells #[.int .i64 0] K) 3)).alloc (.cells #[.slice (some ⟨w5.heap.size, 0, none⟩) 1 1] 23)) wpC g1 c1 (w5.heap.size) ((((Below.refl _ _).alloc (Nat.le_refl _) _).alloc (by first | (simp; done) | (simp; omega)) _).alloc (by first | (simp; done) | (simp; omega)) _) (by exact new_first (W := w5.drew) rfl rfl) hg1 hown1); have HSC := Lib.hid (made_kept (gm := w5.heap.size + 1) (H1C.out.2.2 _ _ (by exact new_under (W := w5.drew.alloc (.cells #[.int .i64 nK] 3)) (by first | rfl | simp) rfl)) (by exact new_under (W := w5.drew.alloc (.cells #[.int .i64 nK] 3)) (by first | rfl | simp) rfl)); clear hown1 hg1 hat1 hlt1) | (refine step_append_lies _ (by rfl) _ _ _ (by rfl) w1.heap.size 23 i1 _ 1 24 Try.underlying22 HJ.out.1 HJ.out.2.1 HJ.out.2.2.1 HJ.out.2.2.2 rfl (by omega) (.slice B K bcap) K vs (by rfl) (by exact row_alike (HOW.out (((w5.drew.alloc (.cells #[.int .i64 nK] 3)).alloc (.cells #[.slice (some ⟨w5.heap.size, 0, none⟩) 1 1] 23)).alloc (.cells (madeCells #[.int .i64 0] K) 3)) ((((Below.refl _ _).alloc (Nat.le_refl _) _).alloc (by first | (simp; done) | (simp; omega)) _).alloc (by first | (simp; done) | (simp; omega)) _)) rfl) ⟨w5.heap.size + 1, 0, none⟩ 1 1 [.slice (some ⟨w5.heap.size, 0, none⟩) 1 1] (by rfl) (by rfl) (by exact World.news_of_block (cs := #[.slice (some ⟨w5.heap.size, 0, none⟩) 1 1]) (t := 23) (fr := (0, 0)) (new_under (W := w5.drew.alloc (.cells #[.int .i64 nK] 3)) (by first | rfl | simp) rfl)) (by simp [Value.oneCell']) (by omega) HL1.out HL2.out (by have := HSZ.out; simp; omega) (w5.heap.size + 3) (by simp) ?_; intro g1 c1 wpD hown1 hg1 hat1 hlt1; have H1D := Lib.hid (HNX.out (((w5.drew.alloc (.cells #[.int .i64 nK] 3)).alloc (.cells #[.slice (some ⟨w5.heap.size, 0, none⟩) 1 1] 23)).alloc (.cells (madeCells #[.int .i64 0] K) 3)) wpD g1 c1 (w5.heap.size) ((((Below.refl _ _).alloc (Nat.le_refl _) _).alloc (by first | (simp; done) | (simp; omega)) _).alloc (by first | (simp; done) | (simp; omega)) _) (by exact new_first (W := w5.drew) rfl rfl) hg1 hown1); have HSD := Lib.hid (made_kept (gm := w5.heap.size + 2) (H1D.out.2.2 _ _ (by exact new_at (W := (w5.drew.alloc (.cells #[.int .i64 nK] 3)).alloc (.cells #[.slice (some ⟨w5.heap.size, 0, none⟩) 1 1] 23)) (by first | rfl | simp) rfl)) (by exact new_at (W := (w5.drew.alloc (.cells #[.int .i64 nK] 3)).alloc (.cells #[.slice (some ⟨w5.heap.size, 0, none⟩) 1 1] 23)) (by first | rfl | simp) rfl)); clear hown1 hg1 hat1 hlt1) | (go_simp; go_at_call 12; refine (HRUN.out (wpA.alloc (.cells (madeCells #[.int .i64 0] K) 3)) _ _ wpA.heap.size (H1A.out.1.keep (below_alloc wpA _)) (made_at wpA K rfl)).mono ?_; rintro e w6 ⟨hb6, rfl⟩; have HB6 := Lib.hid (fin1 hb6 HB1.out H1A.out.2.1 (below_alloc wpA _)); clear hb6) | (go_simp; go_at_call 12; refine (HRUN.out wpB _ _ _ H1B.out.1 HSB.out).mono ?_; rintro e w6 ⟨hb6, rfl⟩; have HB6 := Lib.hid (fin1 hb6 HB1.out H1B.out.2.1 (Below.refl _ _)); clear hb6) | (go_simp; go_at_call 12; refine (HRUN.out wpC _ _ _ H1C.out.1 HSC.out).mono ?_; rintro e w6 ⟨hb6, rfl⟩; have HB6 := Lib.hid (fin1 hb6 HB1.out H1C.out.2.1 (Below.refl _ _)); clear hb6) | (go_simp; go_at_call 12; refine (HRUN.out wpD _ _ _ H1D.out.1 HSD.out).mono ?_; rintro e w6 ⟨hb6, rfl⟩; have HB6 := Lib.hid (fin1 hb6 HB1.out H1D.out.2.1 (Below.refl _ _)); clear hb6) | fail)
            all_goals (go_wp2_with fail; go_ret; exact ⟨rfl, HB6.out⟩)
      | true =>
        have hh : (K : Int).tdiv 2 = ((K / 2 : Nat) : Int) := by rw [Int.tdiv_eq_ediv_of_nonneg (by omega)]; push_cast; rfl
        go_wp2_with fail
        go_loopw [8] (fun v wr => ∃ (i : Nat) (vs : List Value) (gl : List (List Int)), i ≤ K ∧ v = .int .i64 i ∧ gl.length = K ∧ Hid (LRel w1 wr 23 (.slice B K bcap) vs) ∧ Hid (RowsI wr vs gl) ∧ Hid (∀ c, c ∈ gl ↔ c ∈ ch K)) (fun v _ => K - (intOf v).toNat)
        case atStart => exact ⟨0, vs, ch K, by omega, rfl, ch_len hK1, R.out, I.out, fun c => Iff.rfl⟩
        case round =>
          clear R I
          obtain ⟨i, vs, gl, hi, rfl, hgl, R, I, HM⟩ := hrel
          by_cases hlt : i < K / 2
          · have hlt' : (i : Int) < ((K / 2 : Nat) : Int) := by omega
            obtain ⟨j, hj⟩ : ∃ j, j = K - 1 - i := ⟨_, rfl⟩
            have hij : i ≠ j := by omega
            have hjl : j < K := by omega
            obtain ⟨c, hc⟩ : ∃ c, gl[i]? = some c := ⟨_, List.getElem?_eq_getElem (by omega)⟩
            obtain ⟨d, hd⟩ : ∃ d, gl[j]? = some d := ⟨_, List.getElem?_eq_getElem (by omega)⟩
            obtain ⟨gi, hvi, _⟩ := I.out.2 i c hc
            obtain ⟨gj, hvj, _⟩ := I.out.2 j d hd
            have R1 := R.out.draws 1
            obtain ⟨g, rfl, _, hci, hfi, hb1, hb2, puti⟩ := R1.at hvi
            obtain ⟨g2, hg2, _, hcj, hfj, _, _, _⟩ := R1.at hvj
            injection hg2 with hg2
            injection hg2 with hg2
            subst hg2
            have p1 := puti (.slice (some ⟨gj, 0, none⟩) d.length d.length)
            have hvj2 : (vs.set i (.slice (some ⟨gj, 0, none⟩) d.length d.length))[j]? = some (.slice (some ⟨gj, 0, none⟩) d.length d.length) := by rw [List.getElem?_set_ne hij]; exact hvj
            obtain ⟨g3, hg3, _, _, hfj2, _, _, putj⟩ := p1.at hvj2
            injection hg3 with hg3
            injection hg3 with hg3
            subst hg3
            have HP := Lib.hid (putj (.slice (some ⟨gi, 0, none⟩) c.length c.length))
            have I1 : RowsI (wr.drewN 1) vs gl := I.out
            have HRO := Lib.hid (((I1.keep (put_apart R1.own i (.slice (some ⟨gj, 0, none⟩) d.length d.length))).keep (put_apart p1.own j (.slice (some ⟨gi, 0, none⟩) c.length c.length))).swap hc hd hvi hvj)
            have HRM : Hid (∀ x, x ∈ (gl.set i d).set j c ↔ x ∈ ch K) := fun x => (mem_swap hij hc hd x).trans (HM.out x)
            have s2 : IntKind.i64.wrap ((K : Int) - 1) = (K : Int) - 1 := wrap_in (by omega) (by omega)
            have s3 : (K : Int) - 1 - (i : Int) = (j : Int) := by omega
            have s4 : IntKind.i64.wrap (j : Int) = (j : Int) := wrap_in (by omega) (by omega)
            have hii : (i : Int) < (K : Int) := by omega
            have hjj : (j : Int) < (K : Int) := by omega
            have hne : ¬ j = i := fun e => hij e.symm
            have HGL := Lib.hid hgl
            have hci' : wr.cell? ⟨g, i, none⟩ = some (Value.slice (some ⟨gi, 0, none⟩) c.length c.length) := hci
            have hcj' : wr.cell? ⟨g, j, none⟩ = some (Value.slice (some ⟨gj, 0, none⟩) d.length d.length) := hcj
            have hfi' : wr.frozen? ⟨g, i, none⟩ = false := hfi
            have hfj' : wr.frozen? ⟨g, j, none⟩ = false := hfj
            clear hci hcj hfi hfj hfj2 hc hd hvi hvj R1 R I I1 HM puti p1 hvj2 putj hgl hj
            go_wp2_with fail
            go_region
            all_goals (go_wp2_with fail; go_roundw; (case rel => exact ⟨i + 1, _, _, by omega, by go_num, by rw [List.length_set, List.length_set]; exact HGL.out, HP.out, HRO.out, HRM.out⟩); (case measure => simp [intOf]; omega))
          · have hlt' : ¬ (i : Int) < ((K / 2 : Nat) : Int) := by omega
            have HGL := Lib.hid hgl
            have HCL : Hid (∀ c ∈ gl, c.length ≤ 2) := fun c hc => by rcases (ch_mem c).1 ((HM.out c).1 hc) with rfl | ⟨i, _, rfl⟩ <;> simp [lnk]
            clear hgl
            go_wp2_with fail
            have HFA : Hid (FormAt wr B gl) := own_form2 (n := K) (by have := R.out.own; rw [I.out.1, HGL.out] at this; exact this) (I.out.ok (fun c hc => by have := HCL.out c hc; omega)) (fun c hc l hl => by have := (ch_ok hK1 c ((HM.out c).1 hc) l hl); unfold LOk at this; unfold Wf; omega)
            have HB2 := Lib.hid (Below.on HB1.out R.out.below)
            have HMY : Hid (mayM (K : Int) gl = true) := may_ch (by omega) (fun c hc => ch_ok hK1 c ((HM.out c).1 hc))
            have hr1 := run_will (A := B) (M := some ⟨wr.heap.size, 0, none⟩) (f := gl) (m := List.replicate K 0) (fcap := bcap) (mcap := K) (n := (K : Int)) (W := wr.alloc (.cells (madeCells #[.int .i64 0] K) 3)) (r := some (some (List.replicate K 1))) (by unfold Wf; omega) (HFA.out.keep (below_alloc wr _)) (by rw [HGL.out]; omega) (fun c hc => by have := HCL.out c hc; omega) (made_at wr K rfl) (by simp; omega) (fun h => by cases h) ⟨fine_zeros HMY.out, by rw [List.length_replicate]; exact ch_ans hK1 HM.out⟩
            rw [List.length_replicate, HGL.out] at hr1
            have HR1 := Lib.hid hr1
            clear hr1
            go_wp2_with fail
            with_reducible refine HR1.out.mono ?_
            rintro e w5 ⟨hb5, tA, tcap, rfl, hts, _⟩
            have hb5' := Below.on (below_alloc wr (.cells (madeCells #[.int .i64 0] K) 3)) hb5
            have HB5 := Lib.hid (Below.on HB2.out hb5')
            have HT := Lib.hid hts
            have R5 : Hid (LRel w1 w5 23 (.slice B K bcap) vs) := ⟨row_below R.out.own hb5', R.out.below.trans (hb5'.mono R.out.below.size)⟩
            have I5 : Hid (RowsI w5 vs gl) := I.out.keep (fun g cs hc => hb5'.block g (lt_of_heap hc))
            rw [List.length_replicate]
            clear hb5 hb5' hts R I HR1 HFA
            go_wp2_with fail
            go_loop [12] (fun v => ∃ i : Nat, i ≤ K ∧ v = .int .i64 i) (fun v => K - (intOf v).toNat)
            case atStart => exact ⟨0, by omega, rfl⟩
            case round =>
              obtain ⟨i, hi, rfl⟩ := hrel
              by_cases hlt : i < K
              · obtain ⟨aT, rfl, hct⟩ := HT.out.get i 1 (ones_at hlt)
                have e1 : ((1 : Int) != 1) = false := by decide
                go_wp2_with fail
                go_round
                case rel => exact ⟨i + 1, by omega, by go_num⟩
                case measure => simp [intOf]; omega
              · obtain rfl : K = i := by omega
                obtain ⟨nK, hnK⟩ : ∃ nK, nK = -(K : Int) := ⟨_, rfl⟩
                have hnw : IntKind.i64.wrap (-(K : Int)) = nK := by rw [hnK]; exact wrap_in (by omega) (by omega)
                have HNK := Lib.hid hnK
                have hvl5 : vs.length = K := by rw [I5.out.1, HGL.out]
                have b5 : Below w5.heap.size w5 w5.drew := Below.draws (Below.refl _ _) 1
                have HOW : Hid (∀ X, Below w5.drew.heap.size w5.drew X → X.ownsRow w1.heap.size 23 1 (.slice B K bcap) K vs) := fun X b => by
                  have := row_below (row_below R5.out.own b5) b; rw [hvl5] at this; exact this
                have HNX : Hid (∀ (X wp : World) (g1 c1 gr : Nat), Below w5.drew.heap.size w5.drew X → X.heap[gr]? = some (.cells #[.int .i64 nK] 3 (0, 0)) → X.grownBy wp (Value.slice B K bcap).ownBlock → wp.ownsRow w1.heap.size 23 1 (.slice (some ⟨g1, 0, none⟩) (K + 1) c1) (K + 1) (vs ++ [.slice (some ⟨gr, 0, none⟩) 1 1]) →
                    FormAt wp (some ⟨g1, 0, none⟩) (gl ++ [[nK]]) ∧ Below w1.heap.size w1 wp ∧ (∀ (g : Nat) (cs : Array Value), X.heap[g]? = some (.cells cs 3 (0, 0)) → wp.heap[g]? = X.heap[g]?)) := fun X wp g1 c1 gr b hgr hg ho => by
                  obtain ⟨k1, k2, k3⟩ := chain_next (c := [nK]) (gr := gr) R5.out hvl5 I5.out (b5.trans b) hgr hg ho
                  refine ⟨own_form2 (n := K + 1) ho (k2.ok (fun c hc => ?_)) (fun c hc l hl => ?_), k1.below, k3⟩
                  · rcases List.mem_append.1 hc with hc | hc
                    · have := HCL.out c hc; omega
                    · simp at hc; subst hc; simp
                  · rcases List.mem_append.1 hc with hc | hc
                    · have := (ch_ok hK1 c ((HM.out c).1 hc) l hl); unfold LOk at this; unfold Wf; omega
                    · simp at hc; subst hc; simp at hl; subst hl; rw [hnK]; unfold Wf; omega
                have HRUN : Hid (∀ (Y : World) (Bf : Option Addr) (fc gm : Nat), FormAt Y Bf (gl ++ [[nK]]) → SeqAt (Value.int .i64) Y (some ⟨gm, 0, none⟩) (List.replicate K 0) → Calls Try.prog 12 #[.int .i64 (K : Int), .slice Bf (K + 1) fc, .slice (some ⟨gm, 0, none⟩) K K] Y (RunIs (some none) Y)) := fun Y Bf fc gm hf hm => by
                  have hmay : mayM (K : Int) (gl ++ [[nK]]) = true := may_ch (by omega) (fun c hc => by
                    rcases List.mem_append.1 hc with hc | hc
                    · exact ch_ok hK1 c ((HM.out c).1 hc)
                    · simp at hc; subst hc; intro l hl; simp at hl; subst hl; rw [hnK]; unfold LOk; omega)
                  have := run_will (A := Bf) (M := some ⟨gm, 0, none⟩) (f := gl ++ [[nK]]) (m := List.replicate K 0) (fcap := fc) (mcap := K) (n := (K : Int)) (W := Y) (r := some none) (by unfold Wf; omega) hf (by rw [List.length_append, HGL.out]; simp; omega) (fun c hc => by
                    rcases List.mem_append.1 hc with hc | hc
                    · have := HCL.out c hc; omega
                    · simp at hc; subst hc; simp) hm (by simp; omega) (fun h => by cases h) ⟨fine_zeros hmay, by rw [List.length_replicate, hnK]; exact ch_none hK1 HM.out⟩
                  rw [List.length_replicate, List.length_append, HGL.out] at this
                  exact this
                have HL1 : Hid (K + 1 ≤ maxLen) := by show K + 1 ≤ maxLen; unfold maxLen; omega
                have HL2 : Hid ((K + 1) * 24 ≤ 140737488355328) := by show (K + 1) * 24 ≤ 140737488355328; omega
                have HSZ := Lib.hid R5.out.below.size
                clear hnK hvl5 b5 R5 I5
                go_wp2_with fail
                go_region_law (first | (refine step_append_lies _ (by rfl) _ _ _ (by rfl) w1.heap.size 23 i1 _ 1 24 Try.underlying22 HJ.out.1 HJ.out.2.1 HJ.out.2.2.1 HJ.out.2.2.2 rfl (by omega) (.slice B K bcap) K vs (by rfl) (by exact row_alike (HOW.out ((w5.drew.alloc (.cells #[.int .i64 nK] 3)).alloc (.cells #[.slice (some ⟨w5.heap.size, 0, none⟩) 1 1] 23)) (((Below.refl _ _).alloc (Nat.le_refl _) _).alloc (by first | (simp; done) | (simp; omega)) _)) rfl) ⟨w5.heap.size + 1, 0, none⟩ 1 1 [.slice (some ⟨w5.heap.size, 0, none⟩) 1 1] (by rfl) (by rfl) (by exact World.news_of_block (cs := #[.slice (some ⟨w5.heap.size, 0, none⟩) 1 1]) (t := 23) (fr := (0, 0)) (new_at (W := w5.drew.alloc (.cells #[.int .i64 nK] 3)) (by first | rfl | simp) rfl)) (by simp [Value.oneCell']) (by omega) HL1.out HL2.out (by have := HSZ.out; simp; omega) (w5.heap.size + 2) (by simp) ?_; intro g1 c1 wpA hown1 hg1 hat1 hlt1; have H1A := Lib.hid (HNX.out ((w5.drew.alloc (.cells #[.int .i64 nK] 3)).alloc (.cells #[.slice (some ⟨w5.heap.size, 0, none⟩) 1 1] 23)) wpA g1 c1 (w5.heap.size) (((Below.refl _ _).alloc (Nat.le_refl _) _).alloc (by first | (simp; done) | (simp; omega)) _) (by exact new_under (W := w5.drew) rfl rfl) hg1 hown1); clear hown1 hg1 hat1 hlt1) | (refine step_append_lies _ (by rfl) _ _ _ (by rfl) w1.heap.size 23 i1 _ 1 24 Try.underlying22 HJ.out.1 HJ.out.2.1 HJ.out.2.2.1 HJ.out.2.2.2 rfl (by omega) (.slice B K bcap) K vs (by rfl) (by exact row_alike (HOW.out (((w5.drew.alloc (.cells (madeCells #[.int .i64 0] K) 3)).alloc (.cells #[.int .i64 nK] 3)).alloc (.cells #[.slice (some ⟨w5.heap.size + 1, 0, none⟩) 1 1] 23)) ((((Below.refl _ _).alloc (Nat.le_refl _) _).alloc (by first | (simp; done) | (simp; omega)) _).alloc (by first | (simp; done) | (simp; omega)) _)) rfl) ⟨w5.heap.size + 2, 0, none⟩ 1 1 [.slice (some ⟨w5.heap.size + 1, 0, none⟩) 1 1] (by rfl) (by rfl) (by exact World.news_of_block (cs := #[.slice (some ⟨w5.heap.size + 1, 0, none⟩) 1 1]) (t := 23) (fr := (0, 0)) (new_at (W := (w5.drew.alloc (.cells (madeCells #[.int .i64 0] K) 3)).alloc (.cells #[.int .i64 nK] 3)) (by first | rfl | simp) rfl)) (by simp [Value.oneCell']) (by omega) HL1.out HL2.out (by have := HSZ.out; simp; omega) (w5.heap.size + 3) (by simp) ?_; intro g1 c1 wpB hown1 hg1 hat1 hlt1; have H1B := Lib.hid (HNX.out (((w5.drew.alloc (.cells (madeCells #[.int .i64 0] K) 3)).alloc (.cells #[.int .i64 nK] 3)).alloc (.cells #[.slice (some ⟨w5.heap.size + 1, 0, none⟩) 1 1] 23)) wpB g1 c1 (w5.heap.size + 1) ((((Below.refl _ _).alloc (Nat.le_refl _) _).alloc (by first | (simp; done) | (simp; omega)) _).alloc (by first | (simp; done) | (simp; omega)) _) (by exact new_under (W := w5.drew.alloc (.cells (madeCells #[.int .i64 0] K) 3)) (by first | rfl | simp) rfl) hg1 hown1); have HSB := Lib.hid (made_kept (gm := w5.heap.size) (H1B.out.2.2 _ _ (by exact new_first (W := w5.drew) rfl rfl)) (by exact new_first (W := w5.drew) rfl rfl)); clear hown1 hg1 hat1 hlt1) | (refine step_append_lies _ (by rfl) _ _ _ (by rfl) w1.heap.size 23 i1 _ 1 24 Try.underlying22 HJ.out.1 HJ.out.2.1 HJ.out.2.2.1 HJ.out.2.2.2 rfl (by omega) (.slice B K bcap) K vs (by rfl) (by exact row_alike (HOW.out (((w5.drew.alloc (.cells #[.int .i64 nK] 3)).alloc (.cells (madeCells #[.int .i64 0] K) 3)).alloc (.cells #[.slice (some ⟨w5.heap.size, 0, none⟩) 1 1] 23)) ((((Below.refl _ _).alloc (Nat.le_refl _) _).alloc (by first | (simp; done) | (simp; omega)) _).alloc (by first | (simp; done) | (simp; omega)) _)) rfl) ⟨w5.heap.size + 2, 0, none⟩ 1 1 [.slice (some ⟨w5.heap.size, 0, none⟩) 1 1] (by rfl) (by rfl) (by exact World.news_of_block (cs := #[.slice (some ⟨w5.heap.size, 0, none⟩) 1 1]) (t := 23) (fr := (0, 0)) (new_at (W := (w5.drew.alloc (.cells #[.int .i64 nK] 3)).alloc (.cells (madeCells #[.int .i64 0] K) 3)) (by first | rfl | simp) rfl)) (by simp [Value.oneCell']) (by omega) HL1.out HL2.out (by have := HSZ.out; simp; omega) (w5.heap.size + 3) (by simp) ?_; intro g1 c1 wpC hown1 hg1 hat1 hlt1; have H1C := Lib.hid (HNX.out (((w5.drew.alloc (.cells #[.int .i64 nK] 3)).alloc (.cells (madeCells #[.int .i64 0] K) 3)).alloc (.cells #[.slice (some ⟨w5.heap.size, 0, none⟩) 1 1] 23)) wpC g1 c1 (w5.heap.size) ((((Below.refl _ _).alloc (Nat.le_refl _) _).alloc (by first | (simp; done) | (simp; omega)) _).alloc (by first | (simp; done) | (simp; omega)) _) (by exact new_first (W := w5.drew) rfl rfl) hg1 hown1); have HSC := Lib.hid (made_kept (gm := w5.heap.size + 1) (H1C.out.2.2 _ _ (by exact new_under (W := w5.drew.alloc (.cells #[.int .i64 nK] 3)) (by first | rfl | simp) rfl)) (by exact new_under (W := w5.drew.alloc (.cells #[.int .i64 nK] 3)) (by first | rfl | simp) rfl)); clear hown1 hg1 hat1 hlt1) | (refine step_append_lies _ (by rfl) _ _ _ (by rfl) w1.heap.size 23 i1 _ 1 24 Try.underlying22 HJ.out.1 HJ.out.2.1 HJ.out.2.2.1 HJ.out.2.2.2 rfl (by omega) (.slice B K bcap) K vs (by rfl) (by exact row_alike (HOW.out (((w5.drew.alloc (.cells #[.int .i64 nK] 3)).alloc (.cells #[.slice (some ⟨w5.heap.size, 0, none⟩) 1 1] 23)).alloc (.cells (madeCells #[.int .i64 0] K) 3)) ((((Below.refl _ _).alloc (Nat.le_refl _) _).alloc (by first | (simp; done) | (simp; omega)) _).alloc (by first | (simp; done) | (simp; omega)) _)) rfl) ⟨w5.heap.size + 1, 0, none⟩ 1 1 [.slice (some ⟨w5.heap.size, 0, none⟩) 1 1] (by rfl) (by rfl) (by exact World.news_of_block (cs := #[.slice (some ⟨w5.heap.size, 0, none⟩) 1 1]) (t := 23) (fr := (0, 0)) (new_under (W := w5.drew.alloc (.cells #[.int .i64 nK] 3)) (by first | rfl | simp) rfl)) (by simp [Value.oneCell']) (by omega) HL1.out HL2.out (by have := HSZ.out; simp; omega) (w5.heap.size + 3) (by simp) ?_; intro g1 c1 wpD hown1 hg1 hat1 hlt1; have H1D := Lib.hid (HNX.out (((w5.drew.alloc (.cells #[.int .i64 nK] 3)).alloc (.cells #[.slice (some ⟨w5.heap.size, 0, none⟩) 1 1] 23)).alloc (.cells (madeCells #[.int .i64 0] K) 3)) wpD g1 c1 (w5.heap.size) ((((Below.refl _ _).alloc (Nat.le_refl _) _).alloc (by first | (simp; done) | (simp; omega)) _).alloc (by first | (simp; done) | (simp; omega)) _) (by exact new_first (W := w5.drew) rfl rfl) hg1 hown1); have HSD := Lib.hid (made_kept (gm := w5.heap.size + 2) (H1D.out.2.2 _ _ (by exact new_at (W := (w5.drew.alloc (.cells #[.int .i64 nK] 3)).alloc (.cells #[.slice (some ⟨w5.heap.size, 0, none⟩) 1 1] 23)) (by first | rfl | simp) rfl)) (by exact new_at (W := (w5.drew.alloc (.cells #[.int .i64 nK] 3)).alloc (.cells #[.slice (some ⟨w5.heap.size, 0, none⟩) 1 1] 23)) (by first | rfl | simp) rfl)); clear hown1 hg1 hat1 hlt1) | (go_simp; go_at_call 12; refine (HRUN.out (wpA.alloc (.cells (madeCells #[.int .i64 0] K) 3)) _ _ wpA.heap.size (H1A.out.1.keep (below_alloc wpA _)) (made_at wpA K rfl)).mono ?_; rintro e w6 ⟨hb6, rfl⟩; have HB6 := Lib.hid (fin1 hb6 HB1.out H1A.out.2.1 (below_alloc wpA _)); clear hb6) | (go_simp; go_at_call 12; refine (HRUN.out wpB _ _ _ H1B.out.1 HSB.out).mono ?_; rintro e w6 ⟨hb6, rfl⟩; have HB6 := Lib.hid (fin1 hb6 HB1.out H1B.out.2.1 (Below.refl _ _)); clear hb6) | (go_simp; go_at_call 12; refine (HRUN.out wpC _ _ _ H1C.out.1 HSC.out).mono ?_; rintro e w6 ⟨hb6, rfl⟩; have HB6 := Lib.hid (fin1 hb6 HB1.out H1C.out.2.1 (Below.refl _ _)); clear hb6) | (go_simp; go_at_call 12; refine (HRUN.out wpD _ _ _ H1D.out.1 HSD.out).mono ?_; rintro e w6 ⟨hb6, rfl⟩; have HB6 := Lib.hid (fin1 hb6 HB1.out H1D.out.2.1 (Below.refl _ _)); clear hb6) | fail)
                all_goals (go_wp2_with fail; go_ret; exact ⟨rfl, HB6.out⟩)

theorem own : ownKnob Try.prog.godebug = none := by kernel_rfl
theorem cellsInt : Try.prog.cellsOf 3 = 1 := by kernel_rfl
set_option maxRecDepth 100000 in
theorem lifted (os : Os) (started : os.Started) (H : Type) (enc : TypeId × Value → H) :
    ReturnsInHanded {} Try.checked os 7 .any (Rows.unitChainsSpec.pre6 enc Try.prog Try.f7 Rows.unitChainsRow.domain false) (Rows.unitChainsSpec.post enc Try.prog Try.f7 false true false false) := by
  refine returnsInHanded_of_change (C := Try.checked) own started (by kernel_rfl) Try.func7
    (ChangeSpec.witness6 (enc := enc) (C := Try.checked) false ⟨#[], #[.int .u16 0, .bool false], []⟩ 8 (by kernel_rfl) (by kernel_rfl) (by kernel_rfl) (by kernel_rfl)) ?_
  intro W base args ds gs before hval0 hW hcnd _
  have hval : ∀ (j : Nat) t v, Try.f7.params[j]? = some t → args[j]? = some v → Value.okWide Try.prog W .any base t v := hval0
  have hW' := hW
  obtain ⟨p, q, hA0, hV, rfl, hfz, hnd⟩ := hW
  have hA : DataW.TrodAll enc Try.prog W 0 (fun _ => true) true Try.f7.params.toList args.toList ds p := hA0
  rw [Try.params7] at hA hval
  obtain ⟨v0, vs0, d0, ds0, p0, q0, hargs, rfl, rfl, h0, r0⟩ := trodAll_cons hA
  obtain ⟨v1, vs1, d1, ds1, p1, q1, rfl, rfl, rfl, h1, r1⟩ := trodAll_cons r0
  obtain ⟨rfl, rfl, rfl⟩ := trodAll_nil r1
  obtain rfl : args = #[v0, v1] := by cases args; simp_all
  obtain ⟨rfl, rfl⟩ := trodVars_none hV
  obtain ⟨a0, rfl, rfl, rfl, w0⟩ := open_int Try.underlying34 (hval 0 34 v0 rfl rfl) h0
  obtain ⟨b1, rfl⟩ := okWide_bool Try.underlying4 (hval 1 4 v1 rfl rfl)
  have w1 : True := trivial
  clear hA0 hval0
  simp only [List.append_nil] at hW'
  have hlt := hW'.lt
  refine (walk a0 b1 W w0 w1).mono fun e W' ⟨he, hg⟩ => ?_
  subst he
  exact ⟨_, rfl, post_kept hW' hg (fun _ _ _ => (trodAll_cons_mk (shut_bool Try.underlying4 _) trodAll_mk0)) (fun sp hsp => (trodAll_cons_mk (shut_int Try.underlying34 w0) (trodAll_cons_mk (WideElems.Trod_stays laidOut (by kernel_rfl) (of_decide_eq_true (by kernel_rfl)) h1 (fun x hx => hg.same (hlt x (by first | exact hx | (simp; first | exact .inl hx | exact .inr hx | exact hx | exact .inr (.inl hx) | exact .inr (.inr hx))))) (fun x hx => hsp x (by first | exact hx | (simp; first | exact .inl hx | exact .inr hx | exact hx | exact .inr (.inl hx) | exact .inr (.inr hx))))) trodAll_mk0))) (fun _ _ => rfl) (by first | rfl | simp)
    (ok_one (by kernel_rfl) rfl (okWide_bool_mk Try.underlying4 _))⟩

theorem over : Rows.unitChainsRow.holds Try.pinned (OpenSpec.ofChange Rows.unitChainsSpec) :=
  OpenClaim.holds_of_wide 7 Try.f7 rfl rfl rfl rfl rfl rfl rfl ⟨rfl, rfl, rfl, rfl, rfl⟩ rfl rfl rfl rfl rfl (by kernel_rfl) Try.func7 (by kernel_rfl)
    (of_decide_eq_true (by kernel_rfl)) (by unfold Func.isWrapper; first | (rw [if_pos (by decide +kernel)]; kernel_rfl) | (rw [if_neg (by decide +kernel)]; exact ⟨rfl, rfl⟩))
    (fun os started H enc _ => lifted os started H enc)

theorem proved : Rows.UnitChainsSaid :=
  over
#print axioms proved
end Go.Proofs.Ytigomnbcalpohaa.unitChains
