/-
  The law ClauseOrders: in whatever order, however often literals stand, a clause is normally one. No condition.
-/
import Derived.Test.YtdgmjdppiolkkaaClauW
import Derived.Test.YtdgmjdppiolkkaaClauV
import Derived.ProofKit
import Derived.StillTailTactics
import Derived.Deep.RegionHeld3
namespace Go.Proofs.Ytdgmjdppiolkkaa.clauseOrders
open Go.ChangeShapes Go.WideShapes Go.ChangeAt Go.RowKit
set_option linter.unusedVariables false

/-- What the law lays of a clause: each literal at least once. -/
def dl (c : List Int) (u k : Nat) : List Int := (List.range k).flatMap fun i => [c.getD ((i + u) % c.length) 0, c.getD (c.length - 1 - i) 0]
theorem dl_succ (c : List Int) (u k : Nat) : dl c u (k + 1) = dl c u k ++ [c.getD ((k + u) % c.length) 0, c.getD (c.length - 1 - k) 0] := by
  unfold dl; rw [List.range_succ, List.flatMap_append]; simp
theorem dl_len (c : List Int) (u k : Nat) : (dl c u k).length = 2 * k := by
  induction k with
  | zero => rfl
  | succ k ih => rw [dl_succ, List.length_append, ih]; simp; omega
theorem getD_mem {c : List Int} {i : Nat} (h : i < c.length) : c.getD i 0 ∈ c := by
  rw [List.getD_eq_getElem?_getD, List.getElem?_eq_getElem h]; exact List.getElem_mem h
theorem dl_mem {c : List Int} {u : Nat} (h0 : 0 < c.length) {x : Int} : x ∈ c ↔ x ∈ dl c u c.length := by
  unfold dl
  rw [List.mem_flatMap]
  constructor
  · intro h
    obtain ⟨i, hi, rfl⟩ := List.mem_iff_getElem.1 h
    refine ⟨c.length - 1 - i, List.mem_range.2 (by omega), ?_⟩
    simp only [List.mem_cons, List.not_mem_nil, or_false]
    right
    rw [show c.length - 1 - (c.length - 1 - i) = i by omega, List.getD_eq_getElem?_getD, List.getElem?_eq_getElem hi]; rfl
  · rintro ⟨i, hi, h⟩
    have hi := List.mem_range.1 hi
    simp only [List.mem_cons, List.not_mem_nil, or_false] at h
    rcases h with rfl | rfl
    · exact getD_mem (Nat.mod_lt _ h0)
    · exact getD_mem (by omega)
theorem two_more {w wr w' : World} {e : TypeId} {v : Value} {l : List Value} {x y : Value} {g cap : Nat} {W : World} (h : LRel w wr e v l) (hb : Below wr.heap.size wr W) (ho : w'.ownsRow w.heap.size e 1 (.slice (some ⟨g, 0, none⟩) (l.length + 2) cap) (l.length + 2) (l ++ [x, y])) (hg : W.grownBy w' v.ownBlock) : LRel w w' e (.slice (some ⟨g, 0, none⟩) (l.length + 2) cap) (l ++ [x, y]) := by
  have hbw := Below.on h.below hb
  refine ⟨by rw [List.length_append]; exact ho, hbw.grown hg hbw.size (fun k hk => ?_)⟩
  rcases h.own.2 with ⟨h0, _⟩ | ⟨g', c, cur, h0, hb, _⟩
  · subst h0; simp [Value.ownBlock] at hk
  · subst h0; simp [Value.ownBlock] at hk; omega
theorem byte_of {n : Int} (h : (Lit.int .u8 n).wf = true) : 0 ≤ n ∧ n ≤ 255 := by
  simp only [Lit.wf, IntKind.min, IntKind.max, IntKind.signed, IntKind.bits, Bool.and_eq_true, decide_eq_true_eq, Bool.false_eq_true, if_false] at h
  omega
set_option maxHeartbeats 1600000 in
set_option maxRecDepth 100000 in
theorem walk (v0 : Value) (a1 : Int) (w : World) (h0 : IntsIn w v0) (h1 : (Lit.int .u8 a1).wf = true) :
    Calls Try.prog 6 #[v0, .int .u8 a1] w fun e w' => e = .returned (.bool true) ∧ Below w.heap.size w w' := by
  obtain ⟨A, c, cap, rfl, hs, hl, hw⟩ := h0
  obtain ⟨b0, b1⟩ := byte_of h1
  obtain ⟨u, rfl⟩ := Int.eq_ofNat_of_zero_le b0
  have HS := Lib.hid hs
  have HW := Lib.hid hw
  clear hs hw h1
  by_cases hc : (c.length : Int) = 0
  · have hc' : c.length = 0 := by omega
    rw [hc']
    go_enter Try.func6, Try.ntmps6
    go_wp2_with fail
    refine (awake_any _).mono ?_
    rintro e w1 ⟨rfl, hb⟩
    go_wp2_with fail
    go_ret
    exact ⟨rfl, hb⟩
  have hz : ((c.length : Int) == 0) = false := by simpa using hc
  have hpos : 0 < c.length := by omega
  have hz2 : ¬ (c.length : Int) = 0 := hc
  have hz3 : ¬ c = [] := fun e => by subst e; simp at hpos
  clear hc
  by_cases hc : (200 : Int) < (c.length : Int)
  · go_enter Try.func6, Try.ntmps6
    go_wp2_with fail
    refine (awake_any _).mono ?_
    rintro e w1 ⟨rfl, hb⟩
    go_wp2_with fail
    go_ret
    exact ⟨rfl, hb⟩
  have hm' : (c.length : Int) ≤ 200 := by omega
  clear hc
  obtain ⟨i0, hi, hz0, hz1, hz2⟩ := info_parts infoInt
  have HI := Lib.hid (show _ ∧ _ ∧ _ ∧ _ from ⟨hi, hz0, hz1, hz2⟩)
  clear hi hz0 hz1 hz2
  have HNN := Lib.hid (show nrm (dl c u c.length) = nrm c from nrm_eq fun x _ => (dl_mem hpos).symm)
  go_enter Try.func6, Try.ntmps6
  go_wp2_with fail
  refine (awake_any _).mono ?_
  rintro e w1 ⟨rfl, hb1⟩
  have HB1 := Lib.hid hb1
  have HS1 := Lib.hid (HS.out.keep hb1)
  clear hb1
  go_wp2_with fail
  go_loopw [5, 6] (fun v i wr => ∃ (k : Nat) (B : Option Addr) (bcap : Nat), k ≤ c.length ∧ i = .int .i64 k ∧ v = .slice B (2 * k) bcap ∧ Hid (LRel w1 wr 3 (.slice B (2 * k) bcap) (ints (dl c u k)))) (fun _ i _ => c.length - (intOf i).toNat)
  case atStart => exact ⟨0, none, 0, by omega, rfl, rfl, LRel.nil w1 _⟩
  case round =>
    obtain ⟨k, B, bcap, hk, rfl, rfl, R⟩ := hrel
    by_cases hlt : k < c.length
    · have hp0 : (k + u) % c.length < c.length := Nat.mod_lt _ hpos
      have hq0 : c.length - 1 - k < c.length := by omega
      have hm : ((k : Int) + (u : Int)).tmod (c.length : Int) = (((k + u) % c.length : Nat) : Int) := by rw [Int.tmod_eq_emod_of_nonneg (by omega)]; push_cast; rfl
      have hq : (c.length : Int) - 1 - (k : Int) = ((c.length - 1 - k : Nat) : Int) := by omega
      have HX := Lib.hid (dl_succ c u k)
      obtain ⟨a, ha, hcx⟩ := (HS1.out.keep R.out.below).get ((k + u) % c.length) _ (List.getElem?_eq_getElem hp0)
      subst ha
      obtain ⟨a', ha', hcy⟩ := (HS1.out.keep R.out.below).get (c.length - 1 - k) _ (List.getElem?_eq_getElem hq0)
      injection ha' with ha'
      subst ha'
      have ex : c.getD ((k + u) % c.length) 0 = c[(k + u) % c.length] := by rw [List.getD_eq_getElem?_getD, List.getElem?_eq_getElem hp0]; rfl
      have ey : c.getD (c.length - 1 - k) 0 = c[c.length - 1 - k] := by rw [List.getD_eq_getElem?_getD, List.getElem?_eq_getElem hq0]; rfl
      have hab0 : a.block < w1.heap.size := by
        obtain ⟨a2, h2, h3⟩ := HS1.out.get ((k + u) % c.length) _ (List.getElem?_eq_getElem hp0)
        injection h2 with h2; subst h2
        have h4 := lt_of_cell h3
        rwa [add_block] at h4
      rw [← ex] at hcx
      rw [← ey] at hcy
      clear ex ey
      generalize c.getD ((k + u) % c.length) 0 = x at *
      generalize c.getD (c.length - 1 - k) 0 = y at *
      generalize (k + u) % c.length = p at *
      generalize c.length - 1 - k = q at *
      have hdl : (dl c u k).length = 2 * k := dl_len c u k
      have HO : Hid (wr.ownsRow w1.heap.size 3 1 (.slice B (2 * k) bcap) (2 * k) (ints (dl c u k))) := by have := R.out.own; rw [List.length_map, hdl] at this; exact this
      have HDL := Lib.hid hdl
      clear hdl
      generalize dl c u k = d at *
      have s1 : IntKind.i64.wrap ((k : Int) + (u : Int)) = (k : Int) + (u : Int) := wrap_in (by omega) (by omega)
      have s2 : IntKind.i64.wrap ((c.length : Int) - 1) = (c.length : Int) - 1 := wrap_in (by omega) (by omega)
      have s3 : IntKind.i64.wrap ((c.length : Int) - 1 - (k : Int)) = (q : Int) := by rw [hq]; exact wrap_in (by omega) (by omega)
      have s4 : IntKind.i64.wrap (u : Int) = (u : Int) := wrap_in (by omega) (by omega)
      have i1 : (p : Int) < (c.length : Int) := by omega
      have i2 : (q : Int) < (c.length : Int) := by omega
      have HS0 : Hid (w1.heap.size ≤ wr.heap.size) := R.out.below.size
      clear hq hp0 hq0
      have hab : (a.add p).block < w1.heap.size := by rw [add_block]; exact hab0
      have hab' : (a.add q).block < w1.heap.size := by rw [add_block]; exact hab0
      have KA := Lib.hid (fun (o : Obj) => (show (wr.alloc o).drew.cell? (a.add p) = some (.int .i64 x) ∧ (wr.alloc o).drew.cell? (a.add q) = some (.int .i64 y) from
        ⟨((Below.drew (Below.plus R.out.below o)).cell hab).trans ((R.out.below.cell hab).symm.trans hcx), ((Below.drew (Below.plus R.out.below o)).cell hab').trans ((R.out.below.cell hab').symm.trans hcy)⟩))
      have KB := Lib.hid (fun (W : World) (h : Below w1.heap.size w1 W) => (show W.cell? (a.add p) = some (.int .i64 x) ∧ W.cell? (a.add q) = some (.int .i64 y) from
        ⟨(h.cell hab).trans ((R.out.below.cell hab).symm.trans hcx), (h.cell hab').trans ((R.out.below.cell hab').symm.trans hcy)⟩))
      clear hab hab' hab0
      go_wp2_with fail
      go_region_held3 (fun w' => w'.cell? (a.add p) = some (.int .i64 x) ∧ w'.cell? (a.add q) = some (.int .i64 y)) (first | go_keep | (exact KA.out _) | (exact KB.out _ R2H.out.below)) ((refine step_app2 ((wr.alloc (.cells #[.int .i64 x, .int .i64 y] 3)).drew) (by with_reducible exact Eq.refl _) (by rfl) _ _ _ (by rfl) 3 i0 (.int .i64 0) 8 Try.underlying27 HI.out.1 HI.out.2.1 HI.out.2.2.1 HI.out.2.2.2 rfl w1 (.slice B (2 * k) bcap) (ints d) (by go_simp) (LRel.draws (LRel.alloc R.out _) 1) ⟨wr.heap.size, 0, none⟩ 2 2 (ints [x, y]) (by go_simp) (by simp) (news_of_seq (SeqAt.keep (lits_at wr 3 [x, y]) (Below.drew (Below.refl _ _)))) cells_one (by rw [List.length_map, HDL.out]; unfold maxLen; omega) (by rw [List.length_map, HDL.out]; omega) ?_; intro v2 w2 R2 G2; obtain ⟨B3, c3, rfl⟩ := own_form (n := 2 * (k + 1)) R2 (by rw [List.length_append, List.length_map, HDL.out]; simp; omega); have R2H := Lib.hid R2; clear R2 G2))
      all_goals
        go_wp2_with fail
        go_roundw
        case rel => exact ⟨k + 1, B3, c3, by omega, by go_num, rfl, by
          rw [HX.out, show ints (d ++ [x, y]) = ints d ++ ints [x, y] from List.map_append]; exact R2H.out⟩
        case measure => simp [intOf]; omega
    · obtain rfl : k = c.length := by omega
      have hdl : (dl c u c.length).length = 2 * c.length := dl_len c u _
      have HD := Lib.hid (seq_own (xs := dl c u c.length) (by have := R.out.own; rw [List.length_map, hdl] at this; exact this) : SeqAt (Value.int .i64) wr B (dl c u c.length))
      have HDW := Lib.hid (show ∀ x ∈ dl c u c.length, Wf x from fun x hx => HW.out x ((dl_mem hpos).2 hx))
      have HBR := Lib.hid (Below.on HB1.out R.out.below)
      rw [← hdl]
      have hdl2 : (dl c u c.length).length ≤ 400 := by omega
      clear hdl
      generalize dl c u c.length = d at *
      go_wp2_with fail
      refine (normB (HS.out.keep HBR.out) HW.out (by omega) rfl).mono ?_
      rintro e w2 ⟨A2, cap2, rfl, hs2, hb2⟩
      have HB2 := Lib.hid (Below.on HBR.out hb2)
      have HS2 := Lib.hid hs2
      have HD2 := Lib.hid (HD.out.keep hb2)
      clear hs2 hb2
      go_wp2_with fail
      refine (normB HD2.out HDW.out (by omega) HNN.out).mono ?_
      rintro e w3 ⟨A3, cap3, rfl, hs3, hb3⟩
      have HB3 := Lib.hid (Below.on HB2.out hb3)
      have HS3 := Lib.hid hs3
      have HS2' := Lib.hid (HS2.out.keep hb3)
      clear hs3 hb3
      have hnl : (nrm c).1.length ≤ 200 := by unfold nrm; split <;> simp; exact Nat.le_trans (row_len c) (by omega)
      generalize (nrm c).1 = r at *
      generalize (nrm c).2 = t at *
      have ht : (t == t) = true := by simp
      go_wp2_with fail
      refine (sameB HS2'.out HS3.out (by omega) (by omega) (r := true) (by simp)).mono ?_
      rintro e w4 ⟨rfl, hb4⟩
      have HB4 := Lib.hid (Below.on HB3.out hb4)
      clear hb4
      go_wp2_with fail
      go_ret
      exact ⟨rfl, HB4.out⟩

theorem own : ownKnob Try.prog.godebug = none := by kernel_rfl
theorem cellsInt : Try.prog.cellsOf 3 = 1 := by kernel_rfl
set_option maxRecDepth 100000 in
theorem lifted (os : Os) (started : os.Started) (H : Type) (enc : TypeId × Value → H) :
    ReturnsInHanded {} Try.checked os 6 .any (Rows.clauseOrdersSpec.pre6 enc Try.prog Try.f6 Rows.clauseOrdersRow.domain false) (Rows.clauseOrdersSpec.post enc Try.prog Try.f6 false true false false) := by
  refine returnsInHanded_of_change (C := Try.checked) own started (by kernel_rfl) Try.func6
    (ChangeSpec.witness6 (enc := enc) (C := Try.checked) false ⟨#[], #[.slice none 0 0, .int .u8 0], []⟩ 8 (by kernel_rfl) (by kernel_rfl) (by kernel_rfl) (by kernel_rfl)) ?_
  intro W base args ds gs before hval0 hW hcnd _
  have hval : ∀ (j : Nat) t v, Try.f6.params[j]? = some t → args[j]? = some v → Value.okWide Try.prog W .any base t v := hval0
  have hW' := hW
  obtain ⟨p, q, hA0, hV, rfl, hfz, hnd⟩ := hW
  have hA : DataW.TrodAll enc Try.prog W 0 (fun _ => true) true Try.f6.params.toList args.toList ds p := hA0
  rw [Try.params6] at hA hval
  obtain ⟨v0, vs0, d0, ds0, p0, q0, hargs, rfl, rfl, h0, r0⟩ := trodAll_cons hA
  obtain ⟨v1, vs1, d1, ds1, p1, q1, rfl, rfl, rfl, h1, r1⟩ := trodAll_cons r0
  obtain ⟨rfl, rfl, rfl⟩ := trodAll_nil r1
  obtain rfl : args = #[v0, v1] := by cases args; simp_all
  obtain ⟨rfl, rfl⟩ := trodVars_none hV
  have w0 : IntsIn W v0 := ints_open Try.underlying27 Try.underlying3 cellsInt (hval 0 27 v0 rfl rfl) h0
  obtain ⟨a1, rfl, rfl, rfl, w1⟩ := open_int Try.underlying5 (hval 1 5 v1 rfl rfl) h1
  clear hA0 hval0
  simp only [List.append_nil] at hW'
  have hlt := hW'.lt
  refine (walk v0 a1 W w0 w1).mono fun e W' ⟨he, hg⟩ => ?_
  subst he
  exact ⟨_, rfl, post_kept hW' hg (fun _ _ _ => (trodAll_cons_mk (shut_bool Try.underlying4 _) trodAll_mk0)) (fun sp hsp => (trodAll_cons_mk (WideElems.Trod_stays laidOut (by kernel_rfl) (of_decide_eq_true (by kernel_rfl)) h0 (fun x hx => hg.same (hlt x (by first | exact hx | (simp; first | exact .inl hx | exact .inr hx | exact hx | exact .inr (.inl hx) | exact .inr (.inr hx))))) (fun x hx => hsp x (by first | exact hx | (simp; first | exact .inl hx | exact .inr hx | exact hx | exact .inr (.inl hx) | exact .inr (.inr hx))))) (trodAll_cons_mk (shut_int Try.underlying5 w1) trodAll_mk0))) (fun _ _ => rfl) (by simp)
    (ok_one (by kernel_rfl) rfl (okWide_bool_mk Try.underlying4 _))⟩

theorem over : Rows.clauseOrdersRow.holds Try.pinned (OpenSpec.ofChange Rows.clauseOrdersSpec) :=
  OpenClaim.holds_of_wide 6 Try.f6 rfl rfl rfl rfl rfl rfl rfl ⟨rfl, rfl, rfl, rfl, rfl⟩ rfl rfl rfl rfl rfl (by kernel_rfl) Try.func6 (by kernel_rfl)
    (of_decide_eq_true (by kernel_rfl)) (by unfold Func.isWrapper; first | (rw [if_pos (by decide +kernel)]; kernel_rfl) | (rw [if_neg (by decide +kernel)]; exact ⟨rfl, rfl⟩))
    (fun os started H enc _ => lifted os started H enc)

theorem proved : Rows.ClauseOrdersSaid :=
  over
#print axioms proved
end Go.Proofs.Ytdgmjdppiolkkaa.clauseOrders
