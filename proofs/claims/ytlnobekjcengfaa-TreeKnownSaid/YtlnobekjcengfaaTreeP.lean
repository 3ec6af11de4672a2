/-
  The law TreePlays' walk, over what the program's tree is to answer.
-/
import Derived.Test.YtlnobekjcengfaaTreeE
namespace Go.Proofs.Ytlnobekjcengfaa
open Go.ChangeShapes Go.WideShapes Go.ChangeAt Go.RowKit Go.Joins
set_option linter.unusedVariables false
set_option linter.unusedSimpArgs false

section
variable {T : TP} (C : TreeC T) {W w1 w2 w3 : World} {v m : Value} {s : St} {F : Nat → Prop}
include C
theorem two_new (G : Gw W w1) (hT : T F w2 v s) (G2 : Gw w1 w2) (hF : ∀ k, F k → w1.heap.size ≤ k) (R : RNew w2.heap.size w2 m s w3) : ∃ g, m = .pointer (some ⟨g, 0, none⟩) ∧ Tw T W w3 v g s s [] := by
  obtain ⟨g, sl, rfl, hR, hg, ho⟩ := R.ex
  have z1 := G.size
  have z2 := G2.size
  refine ⟨g, rfl, (G.trans G2).trans R.gw, F, _, sl, C.same hT (fun k hk => R.gw.block k (C.lt hT hk)), hR, fun k hk => Nat.le_trans z1 (hF k hk), by omega, fun k hk => by have := ho k hk; omega, fun hk => by have := C.lt hT hk; omega, fun k hk hf => by have := C.lt hT hf; have := ho k hk; omega, fun p hp => by cases hp⟩
end
/-- What the document's copy is. -/
structure Cp (w w' : World) (m : Value) (s : St) : Prop where
  gw : Gw w w'
  ex : ∃ B g sl, m = .pointer (some ⟨g, 0, none⟩) ∧ RT B w' g sl s ∧ w.heap.size ≤ g ∧ ∀ b, sl.ownBlock = some b → w.heap.size ≤ b
section
variable {T : TP} (C : TreeC T) {W w : World} {v : Value} {g : Nat} {s : St}
include C
omit C in
theorem cp_m (h : Tw T W w v g s s []) : Calls Try.prog 14 #[.pointer (some ⟨g, 0, none⟩)] w fun e w' => ∃ gc, e = .returned (.pointer (some ⟨gc, 0, none⟩)) ∧ Cp w w' (.pointer (some ⟨gc, 0, none⟩)) s := by
  obtain ⟨F, B, sl, _, hR, _⟩ := h.ex
  refine (copy_any hR).mono fun e w' ⟨m, he, R⟩ => ?_
  obtain ⟨gc, sl', rfl, h1, h2, h3⟩ := R.ex
  exact ⟨gc, he, R.gw, _, gc, sl', rfl, h1, h2, h3⟩
theorem cp_t (h : Tw T W w v g s s []) (hok : Ok s.l) {w' : World} {gc : Nat} (P : Cp w w' (.pointer (some ⟨gc, 0, none⟩)) s) : Calls Try.prog 15 #[v] w' fun e w'' => ∃ a, e = .returned (.pointer (some a)) ∧ Tw T w w'' (.pointer (some a)) gc s s [] := by
  obtain ⟨F, B, sl, hT, hR, _⟩ := h.ex
  have hl := h.size
  have hT' : T F w' v s := C.same hT (fun k hk => P.gw.block k (C.lt hT hk))
  refine (C.copy hT' hok hl).mono fun e w'' ⟨a, F', he, G, hT2, hF⟩ => ?_
  obtain ⟨B', gc', sl', e1, h1, h2, h3⟩ := P.ex
  obtain rfl : gc = gc' := by cases e1; rfl
  have z := P.gw.size
  have hg := h1.hd.lt
  exact ⟨a, he, P.gw.trans G, F', B', sl', hT2, h1.on G, fun k hk => Nat.le_trans z (hF k hk), h2, h3, fun hk => by have := hF gc hk; omega, fun k hk hf => by have := hF k hf; have := h1.lt k (.inr hk); omega, fun p hp => by cases hp⟩
theorem tw_len {w0 : World} (h : Tw T w0 w v g s s []) (hok : Ok s.l) {w' : World} (G : Gw w w') : Calls Try.prog 13 #[v] w' fun e w'' => e = .returned (.int .i64 s.l.length) ∧ Gw w' w'' := by
  obtain ⟨F, B, sl, hT, hR, _⟩ := h.ex
  exact C.len (C.same hT (fun k hk => G.block k (C.lt hT hk))) hok hR.len
theorem tt_lens (h : Tw T W w v g s s []) (hok : Ok s.l) : ∀ w', Gw w w' → Calls Try.prog 13 #[v] w' fun e w'' => e = .returned (.int .i64 s.l.length) ∧ Gw w' w'' := by
  intro w' G
  obtain ⟨F, B, sl, hT, hR, _⟩ := h.ex
  exact C.len (C.same hT (fun k hk => G.block k (C.lt hT hk))) hok hR.len
end
set_option maxRecDepth 100000 in
set_option maxHeartbeats 8000000 in
theorem plays_walk {T : TP} (C : TreeC T) (aw : AwT) {W : World} {x y z : Value} {es : List (List UInt8 × Bool)} {ad bd : List Dd} (hx : EntAt W x es) (hy : DdAt W y ad) (hz : DdAt W z bd) (hes : es.length ≤ 9223372036854775807) (has : ad.length ≤ 9223372036854775807) (hbs : bd.length ≤ 9223372036854775807) :
    Calls Try.prog 3 #[x, y, z] W fun e W' => e = .returned (.bool true) ∧ Gw W W' := by
  have hn : ∀ b w, (Op.unary .not (.bool b)).run Try.prog w = .ok (.bool (!b)) w := fun _ _ => rfl
  have AW := aw W
  have S1 := fun w (G : Gw W w) => few_any (hx.on G) (hy.on G) hes has
  have S2 := fun w (G : Gw W w) => few_any (EntAt.nil w) (hz.on G) (by decide) hbs
  have HX := Lib.hid hx
  have HY := Lib.hid hy
  have HZ := Lib.hid hz
  clear hx hy hz
  obtain ⟨A1, c1, rfl, hY⟩ := HY.out
  obtain ⟨A2, c2, rfl, hZ⟩ := HZ.out
  clear hY hZ
  go_enter Try.func3, Try.ntmps3
  go_upto_region 3 with (go_at_call 8; with_reducible refine AW.mono ?_; rintro e w1 ⟨rfl, G1⟩)
  go_upto_if 25 with (go_at_call 9; first | (with_reducible refine (S1 _ G1).mono ?_; rintro e wx ⟨b1, rfl, rfl, H1⟩; cases b1) | (with_reducible refine (S2 _ G1).mono ?_; rintro e wx ⟨b2, rfl, rfl, H2⟩; cases b2))
  · go_wp2
    go_ret
    exact ⟨rfl, G1⟩
  · go_wp2
    go_ret
    exact ⟨rfl, G1⟩
  obtain ⟨f1, f2, f3, f4⟩ := H1 trivial
  obtain ⟨_, f5, _, f6⟩ := H2 trivial
  clear H1 H2 S1 S2
  have N1 := C.new (HX.out.on G1) (fun e he => by have := f3 e he; omega) (by omega)
  have N2 := fun w (G : Gw wx w) => new_any (HX.out.on (G1.trans G)) (fun e he => by have := f3 e he; omega) (by omega)
  have F4 := Lib.hid f4
  have F6 := Lib.hid f6
  clear f3 f4 f6
  unfold NewP at N1
  unfold NwP at N2
  cases hs : newT es with
  | none =>
    rw [hs] at N1 N2
    clear hs
    go_wp2_with (first
      | (go_at_call 10; with_reducible refine N1.mono ?_; rintro e w2 ⟨rfl, G2⟩)
      | (go_at_call 11; with_reducible refine (N2 _ G2).mono ?_; rintro e w3 ⟨rfl, G3⟩))
    go_ret
    exact ⟨rfl, G1.trans (G2.trans G3)⟩
  | some s =>
    rw [hs] at N1 N2
    obtain ⟨k1, k2, k3, k4⟩ := new_ok1 hs
    clear hs
    go_upto_region 12 with (first
      | (go_at_call 10; with_reducible refine N1.mono ?_; rintro e w2 ⟨a, F, rfl, hT, G2, hF⟩)
      | (go_at_call 11; with_reducible refine (N2 _ G2).mono ?_; rintro e w3 ⟨m, rfl, R⟩; obtain ⟨g, rfl, H0⟩ := two_new C G1 hT G2 hF R))
    have HT := Lib.hid H0
    have K1 := Lib.hid k1
    have K3 : Hid (0 ≤ s.nx ∧ s.nx ≤ 8 + ((0 : Nat) : Int)) := by rw [k3]; exact ⟨by omega, by omega⟩
    clear H0 R hT hF k1 k2 k3 N1 N2
    go_loopw [11] (fun i wr => ∃ (k : Nat) (s : St), k ≤ ad.length ∧ i = .int .i64 k ∧ Hid (Tw T W wr (.pointer (some a)) g s s []) ∧ Hid (Ok s.l) ∧ Hid (0 ≤ s.nx ∧ s.nx ≤ 8 + (k : Int))) (fun i _ => ad.length - (intOf i).toNat)
    case atStart => exact ⟨0, s, by omega, rfl, HT, K1, K3⟩
    case round =>
      clear HT K1 K3
      obtain ⟨k, s, hk, rfl, HT, HK, HX3⟩ := hrel
      by_cases hlt : k < ad.length
      · obtain ⟨d, hd⟩ : ∃ d, ad[k]? = some d := ⟨_, List.getElem?_eq_getElem hlt⟩
        obtain ⟨A, cap, e1, hD⟩ := HY.out.on (HT.out.gw.trans (Gw.refl wr).drew)
        obtain ⟨gd, off, e2, d0, d1, d2, d3⟩ := hD k d hd
        cases e1
        subst e2
        obtain ⟨q1, q2⟩ := F4.out d (List.mem_of_getElem? hd)
        have HT0 := Lib.hid (HT.out.on C (Gw.refl wr).drew)
        have DO := do_any C HT0.out HK.out d (by omega) (by omega) HX3.out.1 (by have := HX3.out.2; omega)
        have HNX := Lib.hid (do_nx s d)
        have HOK := Lib.hid (do_ok HK.out d)
        obtain ⟨s', hs'⟩ : ∃ s', s' = doT s d := ⟨_, rfl⟩
        rw [← hs'] at DO HNX HOK
        clear hs' hd q1 q2 hD
        obtain ⟨dk, p, q, dd⟩ := d
        simp only [dC] at DO
        simp only at d0 d1 d2 d3
        go_upto_region 14 with fail
        go_region_law (first
          | (rw [if_pos (by rfl)]; go_simp; go_at_call 12; with_reducible refine DO.mono ?_; rintro e wa ⟨rfl, HA⟩; obtain ⟨A', cap', hc⟩ := HA.head; have LN := tt_len C HA HOK.out HA.size)
          | (rw [if_pos (by rfl)]; go_simp; go_at_call 13; with_reducible refine LN.mono ?_; rintro e wb ⟨rfl, HB⟩; obtain ⟨A'', cap'', hc'⟩ := HB.head))
        all_goals (
          clear LN
          go_wp2
          go_roundw
          case rel => exact ⟨k + 1, s', by omega, by go_num, HB, HOK.out, (show 0 ≤ s'.nx ∧ s'.nx ≤ 8 + ((k + 1 : Nat) : Int) from ⟨by have := HNX.out; have := HX3.out; omega, by have := HNX.out; have := HX3.out; omega⟩)⟩
          case measure => simp [intOf]; omega)
      · have hkN : k = ad.length := by omega
        have hlt' : decide ((k : Int) < (ad.length : Int)) = false := decide_eq_false (by omega)
        obtain ⟨w4, hw4⟩ : ∃ w, w = wr := ⟨_, rfl⟩
        subst hw4
        clear hkN
        go_upto_region 19 with (first
          | (go_at_call 14; with_reducible refine (cp_m HT.out).mono ?_; rintro e w5 ⟨gc, rfl, HP⟩)
          | (go_at_call 15; with_reducible refine (cp_t C HT.out HK.out HP).mono ?_; rintro e w6 ⟨u, rfl, HU⟩))
        have HU0 := Lib.hid HU
        have HGW := Lib.hid HT.out.gw
        have HK0 := HK
        clear HU HP
        go_loopw [14] (fun i wx => ∃ (q : Nat) (s : St), q ≤ bd.length ∧ i = .int .i64 q ∧ Hid (Tw T w4 wx (.pointer (some u)) gc s s []) ∧ Hid (Ok s.l) ∧ Hid (0 ≤ s.nx ∧ s.nx ≤ 8 + (k : Int) + (q : Int))) (fun i _ => bd.length - (intOf i).toNat)
        case atStart => exact ⟨0, s, by omega, rfl, HU0, HK, (show 0 ≤ s.nx ∧ s.nx ≤ 8 + (k : Int) + ((0 : Nat) : Int) from ⟨HX3.out.1, by have := HX3.out.2; omega⟩)⟩
        case round =>
          clear HU0
          obtain ⟨q, s2, hq, rfl, HU, HK2, HX4⟩ := hrel
          by_cases hql : q < bd.length
          · obtain ⟨d, hd⟩ : ∃ d, bd[q]? = some d := ⟨_, List.getElem?_eq_getElem hql⟩
            obtain ⟨A, cap, e1, hD⟩ := HZ.out.on (HGW.out.trans HU.out.gw)
            obtain ⟨gd, off, e2, d0, d1, d2, d3⟩ := hD q d hd
            cases e1
            subst e2
            obtain ⟨q1, q2⟩ := F6.out d (List.mem_of_getElem? hd)
            have DO := do_any C HU.out HK2.out d (by omega) (by omega) HX4.out.1 (by have := HX4.out.2; omega)
            have HNX := Lib.hid (do_nx s2 d)
            have HOK := Lib.hid (do_ok HK2.out d)
            obtain ⟨s', hs'⟩ : ∃ s', s' = doT s2 d := ⟨_, rfl⟩
            rw [← hs'] at DO HNX HOK
            clear hs' hd q1 q2 hD
            obtain ⟨dk, dp, dq, dd⟩ := d
            simp only [dC] at DO
            simp only at d0 d1 d2 d3
            go_wp2_with (go_at_call 12; with_reducible refine DO.mono ?_; rintro e wa ⟨rfl, HA⟩)
            go_roundw
            case rel => exact ⟨q + 1, s', by omega, by go_num, HA, HOK.out, (show 0 ≤ s'.nx ∧ s'.nx ≤ 8 + (k : Int) + ((q + 1 : Nat) : Int) from ⟨by have := HNX.out; have := HX4.out; omega, by have := HNX.out; have := HX4.out; omega⟩)⟩
            case measure => simp [intOf]; omega
          · have hql' : decide ((q : Int) < (bd.length : Int)) = false := decide_eq_false (by omega)
            have HT5 := Lib.hid (HT.out.on C HU.out.gw)
            go_upto_region 23 with fail
            obtain ⟨Am, cm, hcm⟩ := HT5.out.head
            obtain ⟨Au, cu, hcu⟩ := HU.out.head
            have hne : Nonempty (InP (fun w => Gw wr w)) := ⟨⟨_, Gw.refl wr⟩⟩
            have LT : ∀ n : InP (fun w => Gw wr w), Calls Try.prog 13 #[.pointer (some a)] n.val fun e w' => e = .returned (.int .i64 s.l.length) ∧ Gw n.val w' := fun n => tt_lens C HT.out HK0.out _ (HU.out.gw.trans n.ok)
            have LU : ∀ n : InP (fun w => Gw wr w), Calls Try.prog 13 #[.pointer (some u)] n.val fun e w' => e = .returned (.int .i64 s2.l.length) ∧ Gw n.val w' := fun n => tw_len C HU.out HK2.out n.ok
            have km : ∀ n : InP (fun w => Gw wr w), n.val.cell? ⟨g, 0, none⟩ = some (.slice Am s.l.length cm) := fun n => n.ok.cell hcm
            have ku : ∀ n : InP (fun w => Gw wr w), n.val.cell? ⟨gc, 0, none⟩ = some (.slice Au s2.l.length cu) := fun n => n.ok.cell hcu
            refine region_p (S := fun w => Gw wr w) (by kernel_rfl) (by kernel_rfl) (Gw.refl wr).drew ?_
            repeat (go_big_quiet_step (first | with_reducible exact toG (fun a b h g => Gw.trans h g) (LT _) | with_reducible exact toG (fun a b h g => Gw.trans h g) (LU _)))
            refine wpQuiet_nil ?_
            intro _ hw'
            obtain ⟨nq, rfl⟩ := hw'
            go_wp2
            go_ret
            exact ⟨by first | rfl | simp, HGW.out.trans (HU.out.gw.trans nq.ok)⟩
end Go.Proofs.Ytlnobekjcengfaa
