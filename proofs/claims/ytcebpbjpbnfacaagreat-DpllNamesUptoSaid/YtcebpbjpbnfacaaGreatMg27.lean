/-
  Parts of the proof, joined: DpllDg, DpllSo.
-/
import Derived.Test.YtcebpbjpbnfacaaGreatMg24

/-
  The library's DeleteFunc at the method value s.needless: the walk.
-/
namespace Go.Proofs.YtcebpbjpbnfacaaGreat
open Go.ChangeShapes Go.WideShapes Go.ChangeAt Go.RowKit
set_option linter.unusedVariables false
set_option linter.unusedSimpArgs false

section
variable {B : Nat} {τ : Nat → Nat} {w wr : World} {p n g cap z j : Nat} {d : Sd} {tl N : List Nat}
set_option maxHeartbeats 1600000 in
theorem ndlkeep_any (h : Sr B τ w p n d) (L : Len n d) {A : Option Addr} {c : Nat} (hc : ∀ (i q : Nat), tl[i]? = some q → ∃ a, A = some a ∧ w.cell? (a.add i) = some (.int .i32 (q : Int))) (hmx : tl.length ≤ 200000) (hls : ∀ l ∈ tl, NdOk n d l) (hany : tl.any (ndl d) = false) :
    Calls Tryz.prog 174 #[.slice A tl.length c, .func (.func 175) #[ptr p] #[]] w fun e w' => e = .returned (.slice A tl.length c) ∧ Below w.heap.size w w' := by
  have K := Lib.hid (ndlindex_any h L (cap := c) hc (by omega) hls)
  have HY := Lib.hid hany
  clear h L hc hls hany
  go_enter Tryz.func174, Tryz.ntmps174
  go_wp2_with fail
  (with_reducible refine K.out.mono ?_)
  rintro e w1 ⟨b1, ⟨rfl, hno⟩ | ⟨j0, q0, rfl, hj0, hn0, hno⟩⟩
  · have B1 := Lib.hid b1
    clear b1 hno K
    go_wp2_with fail
    go_ret
    exact ⟨rfl, B1.out⟩
  · exfalso
    have := (List.any_eq_false.1 HY.out) q0 (List.mem_of_getElem? hj0)
    exact this hn0
set_option maxHeartbeats 3200000 in
set_option maxRecDepth 4000 in
theorem ndldelete_any (h : Sr B τ w p n d) (L : Len n d) (hr : RowN τ 0 w 142 1 (.slice (some ⟨g, 0, none⟩) (tl.length + 1) cap) (tl.length + 1) (n32 (z :: tl))) (hmx : tl.length ≤ 200000) (hls : ∀ l ∈ tl, NdOk n d l) (hany : tl.any (ndl d) = true) :
    Calls Tryz.prog 174 #[.slice (some ⟨g, 1, none⟩) tl.length (cap - 1), .func (.func 175) #[ptr p] #[]] w (DfPost B τ w p n d g cap z tl) := by
  have hcap : tl.length + 1 ≤ cap ∧ cap ≤ 9223372036854775807 := by
    rcases hr.at with ⟨_, h1⟩ | ⟨g', cap', cur, h0, hb, h1, h2, h3, h4⟩
    · omega
    · injection h0 with _ _ h5; subst h5; exact ⟨h1, h2⟩
  have hc1 := hcap.1
  have hc2 := hcap.2
  have K := Lib.hid (ndlindex_any h L (A := some ⟨g, 1, none⟩) (cap := cap - 1) (ls := tl) (fun i q hq => ⟨_, rfl, by rw [Addr.add_lit]; exact hr.cell (by show (n32 (z :: tl))[1 + i]? = _; rw [Nat.add_comm]; simp [n32, hq])⟩) (by omega) hls)
  have HL := Lib.hid L
  have HLS := Lib.hid hls
  have HY := Lib.hid hany
  have R0 : Hid (∀ (w1 : World), Below w.heap.size w w1 → ∀ (j0 q0 : Nat), tl[j0]? = some q0 → ndl d q0 = true → (tl.take j0).any (ndl d) = false → DfR B τ w p n d g cap z tl (j0 + 1) tl w1 ∧ (kp d (tl.take (j0 + 1))).length = j0) := fun w1 b1 j0 q0 hj hn hno => by
    have e : kp d (tl.take (j0 + 1)) = tl.take j0 := by rw [kp_snoc hj, if_pos hn, List.append_nil, kp_none hno]
    have hj0 := (List.getElem?_eq_some_iff.1 hj).1
    have el : (tl.take j0).length = j0 := by rw [List.length_take]; omega
    exact ⟨⟨h.below b1, hr.stp (Stp.of_below τ b1), Stk.of_below b1, rfl, by rw [e, el], rfl⟩, by rw [e, el]⟩
  clear h L hr hls hany hcap
  go_enter Tryz.func174, Tryz.ntmps174
  go_wp2_with fail
  (with_reducible refine K.out.mono ?_)
  rintro e w1 ⟨b1, ⟨rfl, hno⟩ | ⟨j0, q0, rfl, hj0, hn0, hno⟩⟩
  · exfalso
    rw [HY.out] at hno; cases hno
  · obtain ⟨r1, ek⟩ := R0.out w1 b1 j0 q0 hj0 hn0 hno
    have R1 := Lib.hid r1
    have EK := Lib.hid ek
    have hjl := (List.getElem?_eq_some_iff.1 hj0).1
    have kn : ((j0 : Int) == -1) = false := beq_eq_false_iff_ne.2 (by omega)
    have kn2 : ¬ (j0 : Int) = -1 := by omega
    clear r1 ek b1 hj0 hn0 hno K R0
    go_wp2_with fail
    go_loopw [5, 6] (fun iv jv wr => ∃ (j i : Nat) (N : List Nat), j ≤ tl.length ∧ jv = .int .i64 j ∧ iv = .int .i64 i ∧ i < j ∧ Hid ((kp d (tl.take j)).length = i) ∧ Hid (DfR B τ w p n d g cap z tl j N wr)) (fun _ jv _ => tl.length - (intOf jv).toNat)
    case atStart => exact ⟨j0 + 1, j0, tl, by omega, by go_num, rfl, by omega, EK, R1⟩
    case round =>
      obtain ⟨j, i, N, hj, rfl, rfl, hij, EI, R⟩ := hrel
      clear R1 EK
      by_cases hlt : j < tl.length
      · obtain ⟨v, hv⟩ : ∃ v, tl[j]? = some v := ⟨_, List.getElem?_eq_getElem hlt⟩
        obtain ⟨hvn, zz, hz1, hz2⟩ := HLS.out v (List.mem_of_getElem? hv)
        have xj : wr.cell? ⟨g, 1 + j, none⟩ = some (.int .i32 (v : Int)) := R.out.row.cell (by show (n32 (z :: N))[1 + j]? = _; rw [Nat.add_comm]; simp [n32, R.out.get (Nat.le_refl _), hv])
        have CN := Lib.hid (needless_any R.out.R HL.out hvn hz1 hz2)
        have HV := Lib.hid hv
        have zg := lt_of_cell xj
        have b1 : (0 : Int) ≤ (j : Int) := by omega
        have b2 : (j : Int) < (tl.length : Int) := by omega
        have b3 : (i : Int) < (tl.length : Int) := by omega
        have b4 : (0 : Int) ≤ (i : Int) := by omega
        clear hv hz1 hz2 zz
        cases hn : ndl d v with
        | true =>
          have cl := CN.out
          rw [hn] at cl
          have HN := Lib.hid hn
          clear hn
          go_wp2_with (go_at_call 175; ((with_reducible refine cl.mono ?_); rintro e w2 ⟨rfl, hw2⟩; have HW := Lib.hid hw2; clear hw2))
          go_roundw
          case rel => exact ⟨j + 1, i, N, by omega, by go_num, rfl, by omega, by rw [kp_snoc HV.out, if_pos HN.out, List.append_nil]; exact EI.out, (R.out.below HW.out).skip HV.out HN.out⟩
          case measure => simp [intOf]; omega
        | false =>
          have cl := CN.out
          rw [hn] at cl
          have HN := Lib.hid hn
          have HP := Lib.hid (show ∀ W : World, Below wr.heap.size wr W → DfR B τ w p n d g cap z tl (j + 1) (N.set i v) (W.setCell ⟨g, 1 + i, none⟩ (.int .i32 (v : Int))) ∧ W.frozen? ⟨g, 1 + i, none⟩ = false ∧ ∃ u, W.cell? ⟨g, 1 + i, none⟩ = some u from fun W b => by
            have r := R.out.below b
            have r2 := r.put HV.out hn (by rw [EI.out]; omega)
            rw [EI.out] at r2
            obtain ⟨u, hu⟩ : ∃ u, N[i]? = some u := ⟨_, List.getElem?_eq_getElem (by rw [r.len]; omega)⟩
            refine ⟨r2, ?_, _, r.row.cell (u := .int .i32 (u : Int)) (by show (n32 (z :: N))[1 + i]? = _; rw [Nat.add_comm]; simp [n32, hu])⟩
            · rcases r.row.at with ⟨_, h1⟩ | ⟨g', cap', cur, h0, hb, _⟩
              · omega
              · injection h0 with h0 _ _; injection h0 with h0; injection h0 with h0; subst h0; exact hb.free _)
          clear hn
          go_wp2_with (go_at_call 175; ((with_reducible refine cl.mono ?_); rintro e w2 ⟨rfl, hw2⟩; have h3 := HP.out w2 hw2; have r5 := h3.2.1; obtain ⟨u5, c5⟩ := h3.2.2; have HW := Lib.hid h3.1; clear hw2 h3))
          go_roundw
          case rel => exact ⟨j + 1, i + 1, N.set i v, by omega, by go_num, by go_num, by omega, by rw [kp_snoc HV.out, if_neg (by rw [HN.out]; decide), List.length_append, EI.out]; rfl, HW⟩
          case measure => simp [intOf]; omega
      · obtain rfl : j = tl.length := by omega
        have ek : kp d tl = kp d (tl.take tl.length) := by rw [List.take_length]
        have eki : (kp d tl).length = i := by rw [ek]; exact EI.out
        have hfr : ∀ k, wr.frozen? ⟨g, k, none⟩ = false := by
          rcases R.out.row.at with ⟨_, h1⟩ | ⟨g', cap', cur, h0, hb, _⟩
          · omega
          · injection h0 with h0 _ _; injection h0 with h0; injection h0 with h0; subst h0; exact hb.free
        have hce : ∀ k, k < tl.length → (wr.cell? ⟨g, 1 + k, none⟩).isSome = true := fun k hk => by
          obtain ⟨u, hu⟩ : ∃ u, N[k]? = some u := ⟨_, List.getElem?_eq_getElem (by rw [R.out.len]; omega)⟩
          rw [R.out.row.cell (u := .int .i32 (u : Int)) (by show (n32 (z :: N))[1 + k]? = _; rw [Nat.add_comm]; simp [n32, hu])]; rfl
        have hcl : ∀ ty, (Builtin.clear_ #[127] ty #[.slice (some ⟨g, 1 + i, none⟩) (tl.length - i) (cap - 1 - i)]).run Tryz.prog wr = .ok (.tuple #[]) (wr.setCells g (1 + i) (List.replicate (tl.length - i) (.int .i32 0))) := fun ty => Lib.run_clear_slice wr _ 142 ty (.int .i32 0) Tryz.underlying127 (fun w => by rfl) rfl rfl g (1 + i) _ _ (by omega) (fun k hk => by rw [Nat.add_assoc]; exact hce _ (by omega)) (fun k hk => hfr _)
        have HE : Hid (DfPost B τ w p n d g cap z tl (.returned (.slice (some ⟨g, 1, none⟩) i (cap - 1))) (wr.setCells g (1 + i) (List.replicate (tl.length - i) (.int .i32 0)))) := by
          have hg : τ g = 0 := R.out.row.2 g rfl
          refine ⟨List.replicate (tl.length - i) 0, by rw [eki], by rw [List.length_append, eki, List.length_replicate]; omega, ?_, ?_, R.out.S.trans (Stk.cells _ _ _)⟩
          · obtain ⟨pcs, s⟩ := R.out.R
            exact ⟨pcs, s.step (step_cells hg _ _ _) (fun r hr e => by omega)⟩
          · have := R.out.row.stores (List.replicate (tl.length - i) (.int .i32 0)) (1 + i) _ _ (by rw [List.length_replicate]; omega)
            have hNl := R.out.len
            have hnl : (n32 (z :: N)).length = N.length + 1 := by simp [n32]
            rw [sets_eq _ _ _ (by rw [hnl, List.length_replicate]; omega)] at this
            have e : (n32 (z :: N)).take (1 + i) ++ List.replicate (tl.length - i) (Value.int .i32 0) ++ (n32 (z :: N)).drop (1 + i + (List.replicate (tl.length - i) (Value.int .i32 0)).length) = n32 (z :: (kp d tl ++ List.replicate (tl.length - i) 0)) := by
              rw [List.drop_eq_nil_of_le (by rw [hnl, List.length_replicate]; omega), List.append_nil]
              have htk := R.out.tk
              rw [EI.out, ← ek] at htk
              show (n32 (z :: N)).take (1 + i) ++ _ = _
              rw [show (n32 (z :: N)).take (1 + i) = n32 ((z :: N).take (1 + i)) from (List.map_take ..).symm, Nat.add_comm 1 i, List.take_succ_cons, htk]
              simp [n32]
            rw [e] at this
            exact this
        have b3 : (i : Int) ≤ (tl.length : Int) := by omega
        have b4 : (0 : Int) ≤ (i : Int) := by omega
        have b5 : ¬ cap - 1 = i := by omega
        have b6 : (tl.length : Int) ≤ ((cap - 1 : Nat) : Int) := by omega
        have b7 : (i : Int) ≤ ((cap - 1 : Nat) : Int) := by omega
        clear ek eki hfr hce R HY HLS
        go_wp2_with fail
        go_ret
        exact HE.out
end
end Go.Proofs.YtcebpbjpbnfacaaGreat

/-
  shorter of package dpll.
-/
namespace Go.Proofs.YtcebpbjpbnfacaaGreat
open Go.ChangeShapes Go.WideShapes Go.ChangeAt Go.RowKit
set_option linter.unusedVariables false
set_option linter.unusedSimpArgs false

theorem step_call {P : Program} {ops : Array Oper} {o : Oper} {a : Act} {w : World} {f : FuncId} {args : Array Value} {K : Act → World → Prop} {Q : Exit → Act → World → Prop} {E : Prop} (hg : o.guard = none) (h : (execOp a.eval o).run P w = .ok (.enter f args) w) (hk : Calls P f args w fun
      | .returned v, w'' => K (a.put o.dst v) w''
      | .panicked chain, w'' => Q (.panic chain) a w''
      | .outgrown, _ => LetsOut Q) : if Region.wanted o (yielded ops a.tmps) = true then Oper.wp P o a w K Q else E := by
  rw [if_pos (by unfold Region.wanted; rw [hg])]
  unfold Oper.wp; rw [h]; exact hk
def SoPost (B : Nat) (τ : Nat → Nat) (w : World) (p n : Nat) (d : Sd) (g cap z : Nat) (tl : List Nat) (e : Ending) (w' : World) : Prop :=
  e = .returned (.slice (some ⟨g, 0, none⟩) ((kp d tl).length + 1) cap) ∧ Sr B τ w' p n d ∧ RowN τ 0 w' 142 1 (.slice (some ⟨g, 0, none⟩) ((kp d tl).length + 1) cap) ((kp d tl).length + 1) (n32 (z :: kp d tl)) ∧ Stk g w w'
section
variable {B : Nat} {τ : Nat → Nat} {w wr : World} {p n g cap z j : Nat} {d : Sd} {tl N : List Nat}
/-- Less of a row counts. -/
theorem RowN.less {r m m' : Nat} {e : TypeId} {xs ys : List Value} (h : RowN τ r w e 1 (.slice (some ⟨g, 0, none⟩) m cap) m xs) (hm : m' ≤ m) (hy : ys = xs.take m') : RowN τ r w e 1 (.slice (some ⟨g, 0, none⟩) m' cap) m' ys := by
  refine ⟨⟨?_, ?_⟩, fun b hb => h.2 b (by simpa [Value.ownBlock] using hb)⟩
  · rw [hy, List.length_take, h.1.1]; omega
  · rcases h.1.2 with ⟨h0, _⟩ | ⟨g', c', cur, h0, hb, hg, h1, h2, h3, h4⟩
    · cases h0
    · injection h0 with a b c
      subst c
      refine .inr ⟨g', cap, cur, by rw [a], hb, hg, by omega, h2, h3, ?_⟩
      rw [hy, ← h4, List.take_take, Nat.mul_one, Nat.mul_one, Nat.min_eq_left (by omega)]
/-- What is written over itself stays. -/
theorem sets_same {α : Type} (xs : List α) (o k : Nat) (h : o + k ≤ xs.length) : sets xs o ((xs.drop o).take k) = xs := by
  have hl : ((xs.drop o).take k).length = k := by rw [List.length_take, List.length_drop]; omega
  rw [sets_eq _ _ _ (by rw [hl]; exact h), hl, List.append_assoc, ← List.drop_drop, List.take_append_drop, List.take_append_drop]
set_option maxHeartbeats 3200000 in
set_option maxRecDepth 4000 in
theorem shorter_any (h : Sr B τ w p n d) (L : Len n d) (hr : RowN τ 0 w 142 1 (.slice (some ⟨g, 0, none⟩) (tl.length + 1) cap) (tl.length + 1) (n32 (z :: tl))) (hmx : tl.length ≤ 200000) (hls : ∀ l ∈ tl, NdOk n d l) :
    Calls Tryz.prog 131 #[ptr p, .slice (some ⟨g, 0, none⟩) (tl.length + 1) cap] w (SoPost B τ w p n d g cap z tl) := by
  have hcap : tl.length + 1 ≤ cap ∧ cap ≤ 9223372036854775807 := by
    rcases hr.at with ⟨_, h1⟩ | ⟨g', cap', cur, h0, hb, h1, h2, h3, h4⟩
    · omega
    · injection h0 with _ _ h5; subst h5; exact ⟨h1, h2⟩
  have hc1 := hcap.1
  have hc2 := hcap.2
  have zp := h.plt
  cases hany : tl.any (ndl d) with
  | true =>
    have hne : tl ≠ [] := fun e => by rw [e] at hany; cases hany
    have hl0 : 0 < tl.length := List.length_pos_iff.2 hne
    have CD := Lib.hid (fun (W : World) (b : Below w.heap.size w W) => ndldelete_any (h.below b) L (hr.stp (Stp.of_below τ b)) hmx hls hany)
    clear h L hr hls hcap hany hne
    go_enter Tryz.func131, Tryz.ntmps131
    have n1 : ¬ cap - 1 = 0 := by omega
    have n2 : ¬ cap = 1 := by omega
    have b1 : (1 : Int) ≤ (cap : Int) := by omega
    have b2 : (1 : Int) ≤ (tl.length : Int) + 1 := by omega
    obtain ⟨i0, hi0, hz0, hz1, hz2⟩ := info_parts infoLit
    have HI := Lib.hid (show _ ∧ _ ∧ _ ∧ _ from ⟨hi0, hz0, hz1, hz2⟩)
    clear hi0 hz0 hz1 hz2
    obtain ⟨k, hk⟩ : ∃ k, (kp d tl).length = k := ⟨_, rfl⟩
    have hkl : k ≤ tl.length := by rw [← hk]; exact kp_len d tl
    -- what there is behind DeleteFunc
    have HD := Lib.hid (show ∀ (W W' : World) (e : Ending), Below w.heap.size w W → DfPost B τ W p n d g cap z tl e W' → e = .returned (.slice (some ⟨g, 1, none⟩) k (cap - 1)) ∧ (∀ (j : Nat) (u : Value), (n32 (kp d tl))[j]? = some u → W'.cell? ⟨g, 1 + j, none⟩ = some u) ∧ (∀ j, W'.frozen? ⟨g, j, none⟩ = false) ∧ SoPost B τ w p n d g cap z tl (.returned (.slice (some ⟨g, 0, none⟩) (1 + k) cap)) (W'.setCells g 1 (n32 (kp d tl))) from fun W W' e b hd => by
      obtain ⟨rest, rfl, hlen, hs, hrow, hst⟩ := hd
      have hnl : (n32 (z :: (kp d tl ++ rest))).length = tl.length + 1 := by show ((z :: (kp d tl ++ rest)).map _).length = _; rw [List.length_map, List.length_cons, hlen]
      have hg : τ g = 0 := hrow.2 g rfl
      have hcell : ∀ (j : Nat) (u : Value), (n32 (kp d tl))[j]? = some u → W'.cell? ⟨g, 1 + j, none⟩ = some u := fun j u hu => hrow.cell (by
        show (n32 (z :: (kp d tl ++ rest)))[1 + j]? = _
        rw [Nat.add_comm]
        have hj := (List.getElem?_eq_some_iff.1 hu).1
        simp only [n32, List.length_map] at hj
        simp only [n32, List.map_cons, List.map_append, List.getElem?_cons_succ]
        rw [List.getElem?_append_left (by rw [List.length_map]; exact hj)]
        exact hu)
      have hnews : n32 (kp d tl) = ((n32 (z :: (kp d tl ++ rest))).drop 1).take k := by
        have : (n32 (z :: (kp d tl ++ rest))).drop 1 = n32 (kp d tl) ++ n32 rest := by simp [n32]
        rw [this, List.take_append_of_le_length (by simp [n32, hk]), List.take_of_length_le (by simp [n32, hk])]
      refine ⟨by rw [hk], hcell, ?_, ?_⟩
      · rcases hrow.at with ⟨_, h1⟩ | ⟨g', cap', cur, h0, hb, _⟩
        · omega
        · injection h0 with h0 _ _; injection h0 with h0; injection h0 with h0; subst h0; exact hb.free
      · have hst2 := step_cells (w := W') hg (n32 (kp d tl)) 1
        have hr2 := hrow.stores (n32 (kp d tl)) 1 _ _ (by rw [show (n32 (kp d tl)).length = k by simp [n32, hk]]; omega)
        rw [hnews, sets_same _ 1 k (by rw [hnl]; omega), ← hnews] at hr2
        refine ⟨by rw [hk, Nat.add_comm], ?_, ?_, ((Stk.of_below b).trans hst).trans (Stk.cells _ _ _)⟩
        · obtain ⟨pcs, s⟩ := hs
          exact ⟨pcs, s.step hst2 (fun r hr e => by omega)⟩
        · refine hr2.less (by omega) ?_
          rw [hk]
          have : (n32 (z :: (kp d tl ++ rest))) = n32 (z :: kp d tl) ++ n32 rest := by simp [n32]
          rw [this, List.take_append_of_le_length (by simp [n32, hk]), List.take_of_length_le (by simp [n32, hk])])
    have HNL := Lib.hid (show (n32 (kp d tl)).length = k * 1 by simp [n32, hk])
    have HONE := Lib.hid (show ∀ u ∈ n32 (kp d tl), u.oneCell' = true from fun u hu => by
      obtain ⟨q, _, rfl⟩ := List.mem_map.1 hu
      rfl)
    have HKD := Lib.hid hk
    have B0 : Hid (Below w.heap.size w w.drew) := Below.draws (Below.refl _ _) 1
    generalize hnw : n32 (kp d tl) = news at *
    clear hk hnw
    go_wp2_with fail
    by_cases hk0 : k = 0
    · have hn0 : news = [] := List.eq_nil_of_length_eq_zero (by have := HNL.out; omega)
      subst hk0
      subst hn0
      have HD2 := Lib.hid (show ∀ (W W' : World) (e : Ending), Below w.heap.size w W → DfPost B τ W p n d g cap z tl e W' → e = .returned (.slice (some ⟨g, 1, none⟩) 0 (cap - 1)) ∧ SoPost B τ w p n d g cap z tl (.returned (.slice (some ⟨g, 0, none⟩) 1 cap)) W' from fun W W' e b hd => by
        obtain ⟨a, _, _, c⟩ := HD.out W W' e b hd
        exact ⟨a, c⟩)
      clear HD HNL HONE
      go_region_held3 (fun _ => True) (trivial) ((go_at_call 174; (with_reducible refine (CD.out _ B0.out).mono ?_); rintro e W2 hd; obtain ⟨rfl, hp2⟩ := HD2.out _ _ _ B0.out hd; have HE := Lib.hid hp2; clear hd hp2))
      all_goals
        go_wp2_with fail
        go_ret
        exact HE.out
    · have HD3 := Lib.hid (show ∀ (W W' : World) (e : Ending), Below w.heap.size w W → DfPost B τ W p n d g cap z tl e W' → e = .returned (.slice (some ⟨g, 1, none⟩) k (cap - 1)) ∧ SoPost B τ w p n d g cap z tl (.returned (.slice (some ⟨g, 0, none⟩) (1 + k) cap)) (W'.setCells g 1 news) ∧ (loadCellsFrom ⟨g, 1, none⟩ 0 k #[]).run Tryz.prog W' = .ok news.toArray W' ∧ (storeCells ⟨g, 1, none⟩ news).run Tryz.prog W' = .ok () (W'.setCells g 1 news) from fun W W' e b hd => by
        obtain ⟨a, b2, c, d'⟩ := HD.out W W' e b hd
        refine ⟨a, d', ?_, ?_⟩
        · have := run_loadCells_list (P := Tryz.prog) W' ⟨g, 1, none⟩ news (fun j u hu => by rw [Addr.add_lit]; exact b2 j u hu)
          rw [HNL.out, Nat.mul_one] at this
          exact this
        · have := run_storeCells_cells (P := Tryz.prog) g 1 news 0 W' (fun j hj => by
            obtain ⟨u, hu⟩ : ∃ u, news[j]? = some u := ⟨_, List.getElem?_eq_getElem hj⟩
            rw [show 1 + 0 + j = 1 + j by omega, b2 j u hu]; rfl) (fun j hj => c _) HONE.out
          exact this)
      clear HD HNL HONE
      go_region_held3 (fun _ => True) (trivial) ((go_at_call 174; (with_reducible refine (CD.out _ B0.out).mono ?_); rintro e W2 hd; obtain ⟨rfl, hp2, hap, hap2⟩ := HD3.out _ _ _ B0.out hd; have HE := Lib.hid hp2; clear hd hp2))
      all_goals
        go_wp2_with fail
        go_ret
        exact HE.out
  | false =>
    have hkp : kp d tl = tl := kp_none hany
    have HE : Hid (∀ W W' : World, Below w.heap.size w W → Below W.heap.size W W' → SoPost B τ w p n d g cap z tl (.returned (.slice (some ⟨g, 0, none⟩) (1 + tl.length) cap)) (W'.setCells g 1 (n32 tl)) ∧ (∀ (j : Nat) (u : Value), (n32 tl)[j]? = some u → W'.cell? ⟨g, 1 + j, none⟩ = some u) ∧ ∀ j, W'.frozen? ⟨g, j, none⟩ = false) := fun W W' b b' => by
      have hb : Below w.heap.size w W' := b.trans (b'.mono b.size)
      have hg : τ g = 0 := hr.2 g rfl
      have hr1 := hr.stp (Stp.of_below τ hb)
      have hcell : ∀ (j : Nat) (u : Value), (n32 tl)[j]? = some u → W'.cell? ⟨g, 1 + j, none⟩ = some u := fun j u hu => hr1.cell (by rw [Nat.add_comm]; exact hu)
      refine ⟨⟨by rw [hkp, Nat.add_comm], ?_, ?_, (Stk.of_below hb).trans (Stk.cells _ _ _)⟩, hcell, ?_⟩
      · obtain ⟨pcs, s⟩ := h.below hb
        exact ⟨pcs, s.step (step_cells (w := W') hg (n32 tl) 1) (fun r hr e => by omega)⟩
      · have hr2 := hr1.stores (n32 tl) 1 _ _ (by rw [show (n32 tl).length = tl.length by simp [n32]]; omega)
        have e : n32 tl = ((n32 (z :: tl)).drop 1).take tl.length := by
          have : (n32 (z :: tl)).drop 1 = n32 tl := by simp [n32]
          rw [this, List.take_of_length_le (by simp [n32])]
        rw [e, sets_same _ 1 tl.length (by simp [n32]; omega)] at hr2
        rw [hkp]
        rw [← e] at hr2
        exact hr2
      · rcases hr1.at with ⟨_, h1⟩ | ⟨g', cap', cur, h0, hb, _⟩
        · omega
        · injection h0 with h0 _ _; injection h0 with h0; injection h0 with h0; subst h0; exact hb.free
    have CD := Lib.hid (fun (W : World) (b : Below w.heap.size w W) (A : Option Addr) (c : Nat) (hA : ∀ (i q : Nat), tl[i]? = some q → A = some ⟨g, 1, none⟩) => ndlkeep_any (tl := tl) (A := A) (c := c) (h.below b) L (fun i q hq => ⟨⟨g, 1, none⟩, hA i q hq, by rw [Addr.add_lit]; exact (hr.stp (Stp.of_below τ b)).cell (by rw [Nat.add_comm]; show (n32 tl)[i]? = _; simp [n32, hq])⟩) hmx hls hany)
    obtain ⟨i0, hi0, hz0, hz1, hz2⟩ := info_parts infoLit
    have HI := Lib.hid (show _ ∧ _ ∧ _ ∧ _ from ⟨hi0, hz0, hz1, hz2⟩)
    have B0 : Hid (Below w.heap.size w w.drew) := Below.draws (Below.refl _ _) 1
    clear h L hr hls hcap hany hkp hi0 hz0 hz1 hz2
    go_enter Tryz.func131, Tryz.ntmps131
    have b1 : (1 : Int) ≤ (cap : Int) := by omega
    have b2 : (1 : Int) ≤ (tl.length : Int) + 1 := by omega
    by_cases hl0 : tl.length = 0
    · have ht : tl = [] := List.eq_nil_of_length_eq_zero hl0
      subst ht
      have HE2 : Hid (∀ W W' : World, Below w.heap.size w W → Below W.heap.size W W' → SoPost B τ w p n d g cap z [] (.returned (.slice (some ⟨g, 0, none⟩) 1 cap)) W') := fun W W' b b' => (HE.out W W' b b').1
      have CD2 : Hid (∀ (W : World), Below w.heap.size w W → ∀ (A : Option Addr) (c : Nat), Calls Tryz.prog 174 #[.slice A 0 c, .func (.func 175) #[ptr p] #[]] W fun e w' => e = .returned (.slice A 0 c) ∧ Below W.heap.size W w') := fun W b A c => CD.out W b A c (fun i q hq => by cases hq)
      clear HE CD hl0
      by_cases hc0 : cap = 1
      · subst hc0
        go_wp2_with fail
        go_region_held3 (fun _ => True) (trivial) ((go_at_call 174; (with_reducible refine (CD2.out _ B0.out _ _).mono ?_); rintro e W2 ⟨rfl, hd⟩; have HE3 := Lib.hid (HE2.out _ _ B0.out hd); clear hd))
        all_goals
          go_wp2_with fail
          go_ret
          exact HE3.out
      · have n1 : ¬ cap - 1 = 0 := by omega
        go_wp2_with fail
        go_region_held3 (fun _ => True) (trivial) ((go_at_call 174; (with_reducible refine (CD2.out _ B0.out _ _).mono ?_); rintro e W2 ⟨rfl, hd⟩; have HE3 := Lib.hid (HE2.out _ _ B0.out hd); clear hd))
        all_goals
          go_wp2_with fail
          go_ret
          exact HE3.out
    · have n1 : ¬ cap - 1 = 0 := by omega
      have n2 : ¬ cap = 1 := by omega
      have HAP := Lib.hid (show ∀ W W' : World, Below w.heap.size w W → Below W.heap.size W W' → (loadCellsFrom ⟨g, 1, none⟩ 0 tl.length #[]).run Tryz.prog W' = .ok (n32 tl).toArray W' ∧ (storeCells ⟨g, 1, none⟩ (n32 tl)).run Tryz.prog W' = .ok () (W'.setCells g 1 (n32 tl)) from fun W W' b b' => by
        obtain ⟨_, b2, c⟩ := HE.out W W' b b'
        refine ⟨?_, ?_⟩
        · have := run_loadCells_list (P := Tryz.prog) W' ⟨g, 1, none⟩ (n32 tl) (fun j u hu => by rw [Addr.add_lit]; exact b2 j u hu)
          rw [show (n32 tl).length = tl.length by simp [n32]] at this
          exact this
        · have := run_storeCells_cells (P := Tryz.prog) g 1 (n32 tl) 0 W' (fun j hj => by
            obtain ⟨u, hu⟩ : ∃ u, (n32 tl)[j]? = some u := ⟨_, List.getElem?_eq_getElem hj⟩
            rw [show 1 + 0 + j = 1 + j by omega, b2 j u hu]; rfl) (fun j hj => c _) (fun u hu => by obtain ⟨q, _, rfl⟩ := List.mem_map.1 hu; rfl)
          exact this)
      have HE2 := Lib.hid (fun (W W' : World) (b : Below w.heap.size w W) (b' : Below W.heap.size W W') => (HE.out W W' b b').1)
      have CD2 := Lib.hid (fun (W : World) (b : Below w.heap.size w W) => CD.out W b (some ⟨g, 1, none⟩) (cap - 1) (fun _ _ _ => rfl))
      generalize n32 tl = news at *
      clear HE CD
      go_wp2_with fail
      go_region_held3 (fun _ => True) (trivial) ((go_at_call 174; (with_reducible refine (CD2.out _ B0.out).mono ?_); rintro e W2 ⟨rfl, hd⟩; obtain ⟨hap, hap2⟩ := HAP.out _ _ B0.out hd; have HE3 := Lib.hid (HE2.out _ _ B0.out hd); clear hd))
      all_goals
        go_wp2_with fail
        go_ret
        exact HE3.out
end
end Go.Proofs.YtcebpbjpbnfacaaGreat
