/-
  Parts of the proof, joined: TreeN.
-/
import Derived.Test.YtckoapfmfpmdgaaMp08

namespace Go.Proofs.Ytckoapfmfpmdgaa
open Go.ChangeShapes Go.WideShapes Go.ChangeAt Go.RowKit Go.Joins
set_option linter.unusedVariables false
set_option linter.unusedSimpArgs false

/-- Entries, as they lie. -/
def EntAt (w : World) (v : Value) (es : List (List UInt8 × Bool)) : Prop := ∃ A cap, v = .slice A es.length cap ∧
  ∀ (k : Nat) e, es[k]? = some e → ∃ ge off, A = some ⟨ge, off, none⟩ ∧ w.cell? ⟨ge, off + k * 3, none⟩ = some (.string (bs e.1)) ∧ w.cell? ⟨ge, off + k * 3 + 1, none⟩ = some (.bool e.2) ∧ ∃ c : Int, w.cell? ⟨ge, off + k * 3 + 2, none⟩ = some (.int .i64 c)
theorem EntAt.nil (w : World) : EntAt w (.slice none 0 0) [] := ⟨none, 0, rfl, fun k e h => (by simp at h)⟩
theorem EntAt.on {w w' : World} {v : Value} {es : List (List UInt8 × Bool)} (h : EntAt w v es) (G : Gw w w') : EntAt w' v es := by
  obtain ⟨A, cap, h1, h2⟩ := h
  refine ⟨A, cap, h1, fun k e he => ?_⟩
  obtain ⟨ge, off, a, b, c⟩ := h2 k e he
  exact ⟨ge, off, a, G.cell b, G.cell c.1, c.2.imp fun _ h => G.cell h⟩
theorem from_app : ∀ (a b : List (List UInt8 × Bool)) (k : Nat) (l : List Itm), fromT (a ++ b) k l = (fromT a k l).bind (fun l' => fromT b (k + a.length) l')
  | [], b, k, l => rfl
  | e :: a, b, k, l => by
    rw [List.cons_append, fromT, fromT]
    cases putT l e.1 e.2 k with
    | none => rfl
    | some l' =>
      show fromT (a ++ b) (k + 1) l' = (fromT a (k + 1) l').bind _
      rw [from_app a b (k + 1) l', List.length_cons, show k + 1 + a.length = k + (a.length + 1) by omega]
theorem from_one {es : List (List UInt8 × Bool)} {k : Nat} {e : List UInt8 × Bool} {l : List Itm} (he : es[k]? = some e) (hl : fromT (es.take k) 0 [] = some l) : fromT (es.take (k + 1)) 0 [] = putT l e.1 e.2 k := by
  obtain ⟨hk, h2⟩ := List.getElem?_eq_some_iff.1 he
  rw [List.take_succ_eq_append_getElem hk, from_app, hl, h2, List.length_take, Nat.min_eq_left (by omega), Nat.zero_add]
  show fromT [e] k l = _
  rw [fromT]
  cases putT l e.1 e.2 k <;> rfl
theorem new_bad {es : List (List UInt8 × Bool)} {k : Nat} {e : List UInt8 × Bool} {l : List Itm} (he : es[k]? = some e) (hl : fromT (es.take k) 0 [] = some l) (hp : putT l e.1 e.2 k = none) : newT es = none := by
  have h := from_one he hl
  rw [hp] at h
  unfold newT
  split
  · rfl
  · rw [show es = es.take (k + 1) ++ es.drop (k + 1) by simp, from_app, h]; rfl
theorem new_ok {es : List (List UInt8 × Bool)} {l : List Itm} (h8 : es.length ≤ 8) (hl : fromT (es.take es.length) 0 [] = some l) : newT es = some ⟨l, es.length⟩ := by
  rw [List.take_length] at hl
  unfold newT
  rw [if_neg (by omega), hl]; rfl
/-- What NewTree answers. -/
def NwP (W : World) (es : List (List UInt8 × Bool)) (e : Ending) (W' : World) : Prop := match newT es with
  | none => e = .returned (.tuple #[.pointer none, .int .i64 11]) ∧ Gw W W'
  | some s => ∃ v, e = .returned (.tuple #[v, .int .i64 0]) ∧ RNew W.heap.size W v s W'
theorem nw_bad {W W' : World} {es : List (List UInt8 × Bool)} (h : newT es = none) (G : Gw W W') : NwP W es (.returned (.tuple #[.pointer none, .int .i64 11])) W' := by unfold NwP; rw [h]; exact ⟨rfl, G⟩
theorem nw_ok {W W' : World} {es : List (List UInt8 × Bool)} {s : St} {v : Value} (h : newT es = some s) (R : RNew W.heap.size W v s W') : NwP W es (.returned (.tuple #[v, .int .i64 0])) W' := by unfold NwP; rw [h]; exact ⟨v, rfl, R⟩
/-- Behind an append of one, and a store. -/
theorem one_app1 {B : Nat} {w w1 p2 : World} {g : Nat} {sl v2 : Value} {s : St} {i : Itm} (h : RT B w g sl s) (G : Gw w w1) (gr2 : w1.grownBy p2 sl.ownBlock) (at2 : v2.ownBlock = sl.ownBlock ∨ v2.ownBlock = some w1.heap.size)
    (own2 : p2.ownsRow B 95 3 v2 (s.l.length + 1) (iCs s.l ++ iC i)) (hl : s.l.length + 1 ≤ 8) :
    RTo B w g sl ⟨s.l ++ [i], s.nx⟩ (p2.setCell ⟨g, 0, none⟩ v2) := by
  have hg := h.hd.lt
  have z1 : w.heap.size ≤ w1.heap.size := G.size
  have z2 : w1.heap.size ≤ p2.heap.size := gr2.size
  have e2 : ∀ k, k < w.heap.size → sl.ownBlock ≠ some k → p2.heap[k]? = w.heap[k]? := fun k hk hn => (gr2.block k (by omega) (fun e => hn e.symm)).trans (G.block k hk)
  have hv2 : ∀ b, v2.ownBlock = some b → sl.ownBlock = some b ∨ w.heap.size ≤ b := fun b hb => by
    rcases at2 with k | k
    · exact .inl (k ▸ hb)
    · rw [k] at hb; cases hb; exact .inr z1
  have hng : v2.ownBlock ≠ some g := fun e => by
    rcases hv2 g e with k | k
    · exact h.ne k
    · omega
  refine ⟨⟨gr2.os.trans G.os, gr2.output.trans G.output, ?_, fun k hk hkg hs => ?_⟩, v2, ⟨?_, ?_, hng, h.hB, by simpa using hl⟩, hv2⟩
  · simp; omega
  · exact (set_other (p := ⟨g, 0, none⟩) hkg).trans (e2 k hk hs)
  · exact ((h.hd.same (e2 g hg h.ne)).put 0 v2)
  · refine ⟨iCs_len _, ?_⟩
    show _ ∨ ∃ g cap cur, _ ∧ _ ∧ _ ∧ _ ∧ _ ∧ _ ∧ _ = iCs (s.l ++ [i])
    have e1 : iCs (s.l ++ [i]) = iCs s.l ++ iC i := by rw [iCs_app]; simp [iCs]
    rw [e1, show (s.l ++ [i]).length = s.l.length + 1 by simp]
    rcases own2.2 with h0 | ⟨b, cap, cur, h0, h1, h2, h3⟩
    · exact .inl h0
    · have hbg : b ≠ g := fun e => hng (by rw [h0]; simp [Value.ownBlock, e])
      exact .inr ⟨b, cap, cur, h0, h1, (set_other (p := ⟨g, 0, none⟩) hbg).trans h2, h3⟩
theorem ch_gw {W w w' : World} {g : Nat} {sl : Value} {s : St} (h : RT W.heap.size w g sl s) (G : Gw W w) (c : Ch g sl w w') : Gw W w' :=
  ⟨c.os.trans G.os, rfl, c.output.trans G.output, Nat.le_trans G.size c.size, fun k hk => (c.block k (Nat.lt_of_lt_of_le hk G.size) (fun e => by have := h.hB; omega) (fun e => by have := (h.row.lt k e).1; omega)).trans (G.block k hk)⟩
theorem Gw.drewM {a w : World} (h : Gw a w) (n : Nat) : Gw a (w.drewN n) := ⟨h.os, rfl, h.output, h.size, h.block⟩
theorem rt_start (W : World) : RT W.heap.size (W.alloc (.cells #[.slice none 0 0, .int .i64 0] 39)) W.heap.size (.slice none 0 0) ⟨[], 0⟩ :=
  ⟨Has.new W _ _, World.ownsRow_nil _ _ _ _, (fun e => by cases e), Nat.le_refl _, by decide⟩
theorem own_keep2 {w : World} {B g i n : Nat} {e : TypeId} {v u : Value} {xs : List Value} (h : w.ownsRow B e 3 v n xs) (hn : v.ownBlock ≠ some g) : (w.setCell ⟨g, i, none⟩ u).ownsRow B e 3 v n xs := by
  refine ⟨h.1, ?_⟩
  rcases h.2 with h0 | ⟨b, cap, cur, h0, h1, h2, h3⟩
  · exact .inl h0
  · exact .inr ⟨b, cap, cur, h0, h1, (set_other (p := ⟨g, i, none⟩) (fun e => hn (by rw [h0]; simp [Value.ownBlock, e]))).trans h2, h3⟩
theorem rt_done {W w : World} {g : Nat} {sl : Value} {l : List Itm} (h : RT W.heap.size w g sl ⟨l, 0⟩) (G : Gw W w) (n : Int) (hg : W.heap.size ≤ g) : RNew W.heap.size W (.pointer (some ⟨g, 0, none⟩)) ⟨l, n⟩ (w.setCell ⟨g, 1, none⟩ (.int .i64 n)) := by
  refine ⟨(But.set g w 1 _).gw G hg, g, sl, rfl, ⟨h.hd.put 1 _, own_keep2 h.row h.ne, h.ne, hg, h.len⟩, hg, fun b hb => (h.row.lt b hb).1⟩
theorem at_quiet {B : Nat} {W : World} {g : Nat} {sl : Value} {l : List Itm} (h : RT B W g sl ⟨l, 0⟩) {q : List UInt8} {ix : Int} (hq : ixT l q = ix) (n : Nat) :
    Calls Try.prog 45 #[.pointer (some ⟨g, 0, none⟩), .string (bs q)] (W.drewN n) fun e w' => e = .returned (.int .i64 ix) ∧ w' = W.drewN n := by
  have k := at_same (h.same (w' := W.drewN n) (fun _ _ => rfl)) (bs q)
  rw [show ixT (St.mk l 0).l (bs q).data.toList = ix from hq] at k
  exact k
set_option maxRecDepth 100000 in
set_option maxRecDepth 100000 in
set_option maxHeartbeats 16000000 in
theorem new_any {W : World} {v : Value} {es : List (List UInt8 × Bool)} (hv : EntAt W v es) (hsm : ∀ e ∈ es, e.1.length ≤ 140737488351232) (hlen : es.length ≤ 4611686018427387904) :
    Calls Try.prog 18 #[v] W fun e W' => NwP W es e W' := by
  obtain ⟨i0, hi1, hi2, hi3, hi4⟩ := info_item
  have HI := Lib.hid (And.intro hi1 (And.intro hi2 (And.intro hi3 hi4)))
  clear hi1 hi2 hi3 hi4
  have hn : ∀ b w, (Op.unary .not (.bool b)).run Try.prog w = .ok (.bool (!b)) w := fun _ _ => rfl
  have hm8 : Hid (maxLen = 9223372036854775807) := rfl
  have HG0 := Lib.hid (Gw.alloc W (.cells #[.slice none 0 0, .int .i64 0] 39))
  have HT0 := Lib.hid (rt_start W)
  obtain ⟨A, cap, rfl, hc0⟩ := hv
  by_cases hnil : es = []
  · subst hnil
    have HOK := Lib.hid (new_ok (es := []) (l := []) (by decide) rfl)
    rw [show ([] : List (List UInt8 × Bool)).length = 0 from rfl]
    clear hc0
    go_enter Try.func18, Try.ntmps18
    go_upto_region 5 with fail
    go_loopw [5] (fun i wr => i = .int .i64 0 ∧ Hid (RT W.heap.size wr W.heap.size (.slice none 0 0) ⟨[], 0⟩) ∧ Hid (Gw W wr)) (fun i _ => 0)
    case atStart => exact ⟨rfl, HT0, HG0⟩
    case round =>
      obtain ⟨rfl, HT, GG⟩ := hrel
      have HR := Lib.hid (rt_done HT.out GG.out (0 : Int) (Nat.le_refl _))
      have f1 := (box1 HT.out.hd).1
      have f2 := (box1 HT.out.hd).2
      go_wp2
      go_ret2
      exact nw_ok HOK.out HR.out
  obtain ⟨ge, off, rfl, hc⟩ : ∃ ge off, A = some ⟨ge, off, none⟩ ∧ ∀ (k : Nat) e, es[k]? = some e → W.cell? ⟨ge, off + k * 3, none⟩ = some (.string (bs e.1)) ∧ W.cell? ⟨ge, off + k * 3 + 1, none⟩ = some (.bool e.2) := by
    obtain ⟨e0, he0⟩ : ∃ e0, es[0]? = some e0 := ⟨_, List.getElem?_eq_getElem (List.length_pos_iff.2 hnil)⟩
    obtain ⟨ge, off, hA, _⟩ := hc0 0 e0 he0
    refine ⟨ge, off, hA, fun k e he => ?_⟩
    obtain ⟨ge', off', hA', h1, h2, _⟩ := hc0 k e he
    rw [hA] at hA'
    cases hA'
    exact ⟨h1, h2⟩
  clear hc0 hnil
  by_cases h8 : 8 < es.length
  · have h8' : (8 : Int) < es.length := by omega
    have HBAD : Hid (newT es = none) := by show _ = _; unfold newT; rw [if_pos h8]
    clear h8 hc hsm
    go_enter Try.func18, Try.ntmps18
    go_wp2
    go_ret2
    exact nw_bad HBAD.out HG0.out
  · have h8' : ¬ (8 : Int) < es.length := by omega
    have HC := Lib.hid hc
    have HS := Lib.hid hsm
    obtain ⟨N, hN⟩ : ∃ N, N = es.length := ⟨_, rfl⟩
    have HN := Lib.hid hN
    rw [← hN] at h8 h8' hlen ⊢
    clear hc hsm hN
    go_enter Try.func18, Try.ntmps18
    go_upto_region 5 with fail
    go_loopw [5] (fun i wr => ∃ (k : Nat) (l : List Itm) (sl : Value), k ≤ N ∧ i = .int .i64 (k : Int) ∧ Hid (l.length = k) ∧ Hid (fromT (es.take k) 0 [] = some l) ∧ Hid (RT W.heap.size wr W.heap.size sl ⟨l, 0⟩) ∧ Hid (Gw W wr)) (fun i _ => N - (intOf i).toNat)
    case atStart => exact ⟨0, [], .slice none 0 0, by omega, rfl, rfl, rfl, HT0, HG0⟩
    case round =>
      obtain ⟨k, l, sl, hk, rfl, HLK, HFR, HT, GG⟩ := hrel
      have c0 := (box0 HT.out.hd).1
      have f0 := (box0 HT.out.hd).2
      by_cases hlt : k < N
      · obtain ⟨e, he⟩ : ∃ e, es[k]? = some e := ⟨_, List.getElem?_eq_getElem (by rw [← HN.out]; exact hlt)⟩
        obtain ⟨D0, D1⟩ := HC.out k e he
        have hsz := HS.out e (List.mem_of_getElem? he)
        have HBD := Lib.hid (fun h => new_bad he HFR.out h)
        have HFN := Lib.hid (from_one he HFR.out)
        obtain ⟨p, d⟩ := e
        simp only at D0 D1 hsz
        have d0 := GG.out.cell D0
        have d1 := GG.out.cell D1
        have F := fun w => rname_any (bs p) w
        have S := fun w => rsplit_any (bs p) w (by rw [bs_size]; exact hsz)
        rw [bs_data] at F S
        have j0 : (0 : Int) ≤ (k : Int) := by omega
        have j1 : (k : Int) < (N : Int) := by omega
        clear he hsz
        by_cases hnb : nameB p = true
        case neg =>
          have hnb' : nameB p = false := by simpa using hnb
          rw [hnb'] at F
          have HBAD := Lib.hid (HBD.out (by unfold putT; rw [if_neg hnb]))
          obtain ⟨ix, hix0⟩ : ∃ ix : Int, ix = ixT l p := ⟨_, rfl⟩
          have HIX : Hid (ixT l p = ix) := hix0.symm
          clear hix0
          clear hnb hnb'
          go_wp2_with (first
                | (go_at_call 44; with_reducible refine (F _).mono ?_; rintro e w' ⟨rfl, G1⟩; have GG := Lib.hid (GG.out.trans G1); have HT := Lib.hid (HT.out.on G1); have c0 := (box0 HT.out.hd).1; have f0 := (box0 HT.out.hd).2; have d0 := GG.out.cell D0; have d1 := GG.out.cell D1)
                | (go_at_call 46; with_reducible refine (S _).mono ?_; rintro e w' ⟨rfl, G1⟩; have GG := Lib.hid (GG.out.trans G1); have HT := Lib.hid (HT.out.on G1); have c0 := (box0 HT.out.hd).1; have f0 := (box0 HT.out.hd).2; have d0 := GG.out.cell D0; have d1 := GG.out.cell D1)
                | (go_at_call 45; refine (at_same HT.out (bs p)).mono ?_; rw [show ixT (St.mk l 0).l (bs p).data.toList = ix from HIX.out]; rintro e w9 ⟨rfl, rfl⟩))
          go_ret2
          exact nw_bad HBAD.out GG.out
        rw [hnb] at F
        cases hk1 : look l p with
        | some i =>
          have HBAD := Lib.hid (HBD.out (by show putT l p d k = none; unfold putT; rw [if_pos hnb, hk1]))
          obtain ⟨k1, hix, _⟩ := ix_some hk1
          obtain ⟨ix, hix0⟩ : ∃ ix : Int, ix = k1 := ⟨_, rfl⟩
          have HIX : Hid (ixT l p = ix) := by show _ = _; rw [hix, hix0]
          have j2 : (0 : Int) ≤ ix := by omega
          clear hix hix0 hk1 hnb
          go_wp2_with (first
                | (go_at_call 44; with_reducible refine (F _).mono ?_; rintro e w' ⟨rfl, G1⟩; have GG := Lib.hid (GG.out.trans G1); have HT := Lib.hid (HT.out.on G1); have c0 := (box0 HT.out.hd).1; have f0 := (box0 HT.out.hd).2; have d0 := GG.out.cell D0; have d1 := GG.out.cell D1)
                | (go_at_call 46; with_reducible refine (S _).mono ?_; rintro e w' ⟨rfl, G1⟩; have GG := Lib.hid (GG.out.trans G1); have HT := Lib.hid (HT.out.on G1); have c0 := (box0 HT.out.hd).1; have f0 := (box0 HT.out.hd).2; have d0 := GG.out.cell D0; have d1 := GG.out.cell D1)
                | (go_at_call 45; refine (at_same HT.out (bs p)).mono ?_; rw [show ixT (St.mk l 0).l (bs p).data.toList = ix from HIX.out]; rintro e w9 ⟨rfl, rfl⟩))
          go_ret2
          exact nw_bad HBAD.out GG.out
        | none =>
          obtain ⟨ix, hix0⟩ : ∃ ix : Int, ix = -1 := ⟨_, rfl⟩
          have HIX : Hid (ixT l p = ix) := by show _ = _; rw [ix_none hk1, hix0]
          have j2 : ¬ (0 : Int) ≤ ix := by omega
          clear hix0
          obtain ⟨q, hq⟩ : ∃ q, q = spl p := ⟨_, rfl⟩
          rw [← hq] at S
          obtain ⟨q1, q2⟩ := q
          by_cases hq1 : q1 = []
          · subst hq1
            have HNX : Hid (fromT (es.take (k + 1)) 0 [] = some (l ++ [⟨p, d, (k : Int)⟩])) := by
              show _ = _
              rw [HFN.out]
              show putT l p d k = _
              unfold putT
              rw [if_pos hnb, hk1, ← hq]
              rfl
            have e1 : (bs [] : ByteArray).toList.isEmpty = true := by rw [bs_list]; rfl
            clear hq hk1 hnb HBD
            go_upto_region 10 with (first
                  | (go_at_call 44; with_reducible refine (F _).mono ?_; rintro e w' ⟨rfl, G1⟩; have GG := Lib.hid (GG.out.trans G1); have HT := Lib.hid (HT.out.on G1); have c0 := (box0 HT.out.hd).1; have f0 := (box0 HT.out.hd).2; have d0 := GG.out.cell D0; have d1 := GG.out.cell D1)
                  | (go_at_call 46; with_reducible refine (S _).mono ?_; rintro e w' ⟨rfl, G1⟩; have GG := Lib.hid (GG.out.trans G1); have HT := Lib.hid (HT.out.on G1); have c0 := (box0 HT.out.hd).1; have f0 := (box0 HT.out.hd).2; have d0 := GG.out.cell D0; have d1 := GG.out.cell D1)
                  | (go_at_call 45; refine (at_same HT.out (bs p)).mono ?_; rw [show ixT (St.mk l 0).l (bs p).data.toList = ix from HIX.out]; rintro e w9 ⟨rfl, rfl⟩))
            go_quiet (fail)
            have GV := Lib.hid (GG.out.drewM nq)
            have HV := Lib.hid (HT.out.same (w' := w'.drewN nq) (fun _ _ => rfl))
            have v0 : (w'.drewN nq).cell? ⟨W.heap.size, 0, none⟩ = some sl := c0
            have v2 : (w'.drewN nq).cell? ⟨ge, off + k * 3, none⟩ = some (.string (bs p)) := d0
            have v3 : (w'.drewN nq).cell? ⟨ge, off + k * 3 + 1, none⟩ = some (.bool d) := d1
            clear c0 f0 d0 d1 HT GG
            generalize w'.drewN nq = V at *
            go_upto_region 12 with fail
            have HO := (Gw.alloc V (.cells #[.string (bs p), .bool d, .int .i64 (k : Int)] 95))
            have e0 : (V.alloc (.cells #[.string (bs p), .bool d, .int .i64 (k : Int)] 95)).drew.cell? ⟨W.heap.size, 0, none⟩ = some sl := HO.cell v0
            have hgs : Hid (W.heap.size < V.heap.size) := HV.out.hd.lt
            go_region_law (refine step_append_own _ (by rfl) _ _ _ (by rfl) W.heap.size 95 i0 _ 3 32 Try.underlying37 HI.out.1 HI.out.2.1 HI.out.2.2.1 HI.out.2.2.2 rfl (by omega) sl l.length (iCs l) (by rfl) ((HV.out.row.alloc _).drew) ⟨V.heap.size, 0, none⟩ 1 1 [.string (bs p), .bool d, .int .i64 (k : Int)] (by rfl) (by rfl) (World.news_of_block (cs := #[.string (bs p), .bool d, .int .i64 (k : Int)]) (t := 95) (fr := (0, 0)) (heap_alloc_new V _)) (by simp [Value.oneCell']) (by have := hm8.out; have := HLK.out; omega) (by have := HLK.out; omega) (by have := HV.out.hB; have := hgs.out; simp; omega) ?_; intro v9 p2 own2 gr2 at2; obtain ⟨A2, m2, c2, rfl⟩ := own_form own2; have HP : Hid (Has p2 W.heap.size 39 #[sl, .int .i64 0]) := (HV.out.hd.on HO).same (gr2.block W.heap.size (by have := hgs.out; simp; omega) (fun e => HV.out.ne e.symm)); have e2 := (box0 HP.out).1; have e3 := (box0 HP.out).2)
            all_goals (
              have HF := one_app1 (i := ⟨p, d, (k : Int)⟩) HV.out HO.drew gr2 at2 own2 (by have := HLK.out; show l.length + 1 ≤ 8; omega)
              obtain ⟨sl9, HF1, _⟩ := HF.ex
              have HF2 := Lib.hid HF1
              have HG2 := Lib.hid (ch_gw HV.out GV.out HF.ch)
              clear HF HF1
              go_wp2
              go_roundw
              case rel => exact ⟨k + 1, _, sl9, by omega, by go_num, by show (l ++ _).length = _; have := HLK.out; simp; omega, HNX.out, HF2, HG2⟩
              case measure => simp [intOf]; omega)
          have e1 : (bs q1).toList.isEmpty = false := by rw [bs_list]; cases q1 with | nil => exact absurd rfl hq1 | cons => rfl
          have HP1 : Hid (putT l p d k = if d = true then none else match look l q1 with | none => none | some i => if i.d = true then some (l ++ [⟨p, d, (k : Int)⟩]) else none) := by
            show _ = _
            unfold putT
            rw [if_pos hnb, hk1, ← hq]
            simp only [hq1, if_false]
            rfl
          clear hq hk1 hnb hq1
          cases d with
          | true =>
            have HBAD := Lib.hid (HBD.out (by show putT l p true k = none; rw [HP1.out]; rfl))
            clear HBD
            go_upto_region 10 with (first
                  | (go_at_call 44; with_reducible refine (F _).mono ?_; rintro e w' ⟨rfl, G1⟩; have GG := Lib.hid (GG.out.trans G1); have HT := Lib.hid (HT.out.on G1); have c0 := (box0 HT.out.hd).1; have f0 := (box0 HT.out.hd).2; have d0 := GG.out.cell D0; have d1 := GG.out.cell D1)
                  | (go_at_call 46; with_reducible refine (S _).mono ?_; rintro e w' ⟨rfl, G1⟩; have GG := Lib.hid (GG.out.trans G1); have HT := Lib.hid (HT.out.on G1); have c0 := (box0 HT.out.hd).1; have f0 := (box0 HT.out.hd).2; have d0 := GG.out.cell D0; have d1 := GG.out.cell D1)
                  | (go_at_call 45; refine (at_same HT.out (bs p)).mono ?_; rw [show ixT (St.mk l 0).l (bs p).data.toList = ix from HIX.out]; rintro e w9 ⟨rfl, rfl⟩))
            go_quiet (fail)
            go_wp2
            go_ret2
            exact nw_bad HBAD.out (GG.out.drewM _)
          | false =>
            cases hk2 : look l q1 with
            | none =>
              have HBAD := Lib.hid (HBD.out (by show putT l p false k = none; rw [HP1.out, hk2]; rfl))
              have HQI : Hid (ixT l q1 = -1) := ix_none hk2
              clear HBD hk2
              go_upto_region 10 with (first
                    | (go_at_call 44; with_reducible refine (F _).mono ?_; rintro e w' ⟨rfl, G1⟩; have GG := Lib.hid (GG.out.trans G1); have HT := Lib.hid (HT.out.on G1); have c0 := (box0 HT.out.hd).1; have f0 := (box0 HT.out.hd).2; have d0 := GG.out.cell D0; have d1 := GG.out.cell D1)
                    | (go_at_call 46; with_reducible refine (S _).mono ?_; rintro e w' ⟨rfl, G1⟩; have GG := Lib.hid (GG.out.trans G1); have HT := Lib.hid (HT.out.on G1); have c0 := (box0 HT.out.hd).1; have f0 := (box0 HT.out.hd).2; have d0 := GG.out.cell D0; have d1 := GG.out.cell D1)
                    | (go_at_call 45; refine (at_same HT.out (bs p)).mono ?_; rw [show ixT (St.mk l 0).l (bs p).data.toList = ix from HIX.out]; rintro e w9 ⟨rfl, rfl⟩))
              have HQ := Lib.hid (fun n => at_quiet HT.out HQI.out n)
              go_quiet (exact Calls.quiet_of_same (HQ.out _))
              go_wp2
              go_ret2
              exact nw_bad HBAD.out (GG.out.drewM _)
            | some i =>
              have HP2 : Hid (putT l p false k = if i.d = true then some (l ++ [⟨p, false, (k : Int)⟩]) else none) := by show _ = _; rw [HP1.out, hk2]; rfl
              have HK2 := Lib.hid hk2
              clear HP1 hk2
              go_upto_region 10 with (first
                    | (go_at_call 44; with_reducible refine (F _).mono ?_; rintro e w' ⟨rfl, G1⟩; have GG := Lib.hid (GG.out.trans G1); have HT := Lib.hid (HT.out.on G1); have c0 := (box0 HT.out.hd).1; have f0 := (box0 HT.out.hd).2; have d0 := GG.out.cell D0; have d1 := GG.out.cell D1)
                    | (go_at_call 46; with_reducible refine (S _).mono ?_; rintro e w' ⟨rfl, G1⟩; have GG := Lib.hid (GG.out.trans G1); have HT := Lib.hid (HT.out.on G1); have c0 := (box0 HT.out.hd).1; have f0 := (box0 HT.out.hd).2; have d0 := GG.out.cell D0; have d1 := GG.out.cell D1)
                    | (go_at_call 45; refine (at_same HT.out (bs p)).mono ?_; rw [show ixT (St.mk l 0).l (bs p).data.toList = ix from HIX.out]; rintro e w9 ⟨rfl, rfl⟩))
              have HSL : SlAt w' sl l := HT.out.sl
              obtain ⟨k2, r2, cap2, hix2, _, hlt2, rfl, hcap2, hcm2, E0, E1, E2⟩ := sl_look HSL HK2.out
              have HQI : Hid (ixT l q1 = (k2 : Int)) := hix2
              have j3 : ¬ (k2 : Int) < 0 := by omega
              have j4 : (0 : Int) ≤ k2 := by omega
              have j5 : (k2 : Int) < l.length := by omega
              have HQ := Lib.hid (fun n => at_quiet HT.out HQI.out n)
              clear hix2 HSL
              cases hid : i.d with
              | false =>
                have HBAD := Lib.hid (HBD.out (by show putT l p false k = none; rw [HP2.out, hid]; rfl))
                rw [hid] at E1
                clear HBD hid
                go_quiet (exact Calls.quiet_of_same (HQ.out _))
                go_wp2
                go_ret2
                exact nw_bad HBAD.out (GG.out.drewM _)
              | true =>
                have HNX : Hid (fromT (es.take (k + 1)) 0 [] = some (l ++ [⟨p, false, (k : Int)⟩])) := by
                  show _ = _
                  rw [HFN.out]
                  show putT l p false k = _
                  rw [HP2.out, hid]; rfl
                rw [hid] at E1
                clear HBD hid
                go_quiet (exact Calls.quiet_of_same (HQ.out _))
                have GV := Lib.hid (GG.out.drewM nq)
                have HV := Lib.hid (HT.out.same (w' := w'.drewN nq) (fun _ _ => rfl))
                have v0 : (w'.drewN nq).cell? ⟨W.heap.size, 0, none⟩ = some (.slice (some ⟨r2, 0, none⟩) l.length cap2) := c0
                have v2 : (w'.drewN nq).cell? ⟨ge, off + k * 3, none⟩ = some (.string (bs p)) := d0
                have v3 : (w'.drewN nq).cell? ⟨ge, off + k * 3 + 1, none⟩ = some (.bool false) := d1
                clear c0 f0 d0 d1 HT GG
                generalize w'.drewN nq = V at *
                go_upto_region 12 with fail
                have HO := (Gw.alloc V (.cells #[.string (bs p), .bool false, .int .i64 (k : Int)] 95))
                have e0 : (V.alloc (.cells #[.string (bs p), .bool false, .int .i64 (k : Int)] 95)).drew.cell? ⟨W.heap.size, 0, none⟩ = some (.slice (some ⟨r2, 0, none⟩) l.length cap2) := HO.cell v0
                have hgs : Hid (W.heap.size < V.heap.size) := HV.out.hd.lt
                go_region_law (refine step_append_own _ (by rfl) _ _ _ (by rfl) W.heap.size 95 i0 _ 3 32 Try.underlying37 HI.out.1 HI.out.2.1 HI.out.2.2.1 HI.out.2.2.2 rfl (by omega) (.slice (some ⟨r2, 0, none⟩) l.length cap2) l.length (iCs l) (by rfl) ((HV.out.row.alloc _).drew) ⟨V.heap.size, 0, none⟩ 1 1 [.string (bs p), .bool false, .int .i64 (k : Int)] (by rfl) (by rfl) (World.news_of_block (cs := #[.string (bs p), .bool false, .int .i64 (k : Int)]) (t := 95) (fr := (0, 0)) (heap_alloc_new V _)) (by simp [Value.oneCell']) (by have := hm8.out; have := HLK.out; omega) (by have := HLK.out; omega) (by have := HV.out.hB; have := hgs.out; simp; omega) ?_; intro v9 p2 own2 gr2 at2; obtain ⟨A2, m2, c2, rfl⟩ := own_form own2; have HP : Hid (Has p2 W.heap.size 39 #[(.slice (some ⟨r2, 0, none⟩) l.length cap2), .int .i64 0]) := (HV.out.hd.on HO).same (gr2.block W.heap.size (by have := hgs.out; simp; omega) (fun e => HV.out.ne e.symm)); have e2 := (box0 HP.out).1; have e3 := (box0 HP.out).2)
                all_goals (
                  have HF := one_app1 (i := ⟨p, false, (k : Int)⟩) HV.out HO.drew gr2 at2 own2 (by have := HLK.out; show l.length + 1 ≤ 8; omega)
                  obtain ⟨sl9, HF1, _⟩ := HF.ex
                  have HF2 := Lib.hid HF1
                  have HG2 := Lib.hid (ch_gw HV.out GV.out HF.ch)
                  clear HF HF1
                  go_wp2
                  go_roundw
                  case rel => exact ⟨k + 1, _, sl9, by omega, by go_num, by show (l ++ _).length = _; have := HLK.out; simp; omega, HNX.out, HF2, HG2⟩
                  case measure => simp [intOf]; omega)
      · obtain rfl : k = N := by omega
        have HOK := Lib.hid (new_ok (es := es) (l := l) (by rw [← HN.out]; omega) (by rw [← HN.out]; exact HFR.out))
        have HR := Lib.hid (rt_done HT.out GG.out (k : Int) (Nat.le_refl _))
        have f1 := (box1 HT.out.hd).1
        have f2 := (box1 HT.out.hd).2
        go_wp2
        go_ret2
        exact nw_ok (by rw [HOK.out, HN.out]) HR.out
end Go.Proofs.Ytckoapfmfpmdgaa
