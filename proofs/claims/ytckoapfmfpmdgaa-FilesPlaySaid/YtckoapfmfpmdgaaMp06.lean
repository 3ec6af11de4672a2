/-
  Parts of the proof, joined: TreeW, TreeF, TreeC.
-/
import Derived.Test.YtckoapfmfpmdgaaMp05
import Derived.Maps.AppendAt

namespace Go.Proofs.Ytckoapfmfpmdgaa
open Go.ChangeShapes Go.WideShapes Go.ChangeAt Go.RowKit Go.Joins
set_option linter.unusedVariables false
set_option linter.unusedSimpArgs false

set_option maxRecDepth 100000 in
theorem info_item : ∃ i0, Try.prog.info? 95 = some i0 ∧ i0.zero = some (.agg #[.string ⟨#[]⟩, .bool false, .int .i64 0]) ∧ i0.size = 3 ∧ i0.bytes = 32 := ⟨_, rfl, rfl, rfl, rfl⟩
/-- append onto a row of the call's own, whatever it is that is appended (nothing, too). -/
theorem step_append_own {P : Program} (w : World) {ops : Array Oper} {o : Oper} {a : Act} {K : Act → World → Prop} {Q : Exit → Act → World → Prop} {E : Prop} (hgd : o.guard = none) (s x : Operand) (t : TypeId)
    (ho : o.op = .call { callee := .builtin .append, args := #[s, x], argTypes := #[t, t] })
    (base : Nat) (e : TypeId) (i : TypeInfo) (z : Value) (size bytes : Nat) (ht : P.underlying t = some (.slice e)) (hi : P.info? e = some i) (hz : i.zero = some z)
    (hsize : i.size = size) (hby : i.bytes = bytes) (hzs : z.cells.size = size) (hsz : 0 < size)
    (v : Value) (n : Nat) (xs : List Value) (hs : a.eval s = v) (hown : w.ownsRow base e size v n xs)
    (ad : Addr) (m c : Nat) (news : List Value) (hx : a.eval x = .slice (some ad) m c) (hl : news.length = m * size) (hnews : ∀ j u, news[j]? = some u → w.cell? (ad.add j) = some u) (h1 : ∀ u ∈ news, u.oneCell' = true)
    (h63 : n + m ≤ maxLen) (hbytes : (n + m) * bytes ≤ 140737488355328) (hbase : base ≤ w.heap.size)
    (h : ∀ v' w', w'.ownsRow base e size v' (n + m) (xs ++ news) → w.grownBy w' v.ownBlock → (v'.ownBlock = v.ownBlock ∨ v'.ownBlock = some w.heap.size) → K (a.put o.dst v') w') :
    if Region.wanted o (yielded ops a.tmps) = true then Oper.wp P o a w K Q else E := by
  have hw : Region.wanted o (yielded ops a.tmps) = true := by simp [Region.wanted, hgd]
  rw [if_pos hw]
  obtain ⟨v', w', hr, h2, h3, _, h5⟩ := run_append_own_at (P := P) w base t o.type e i z size bytes ht hi hz hsize hby hzs hsz v n xs hown ad m c news hl hnews h1 h63 hbytes hbase
  unfold Oper.wp execOp
  simp only [ho, resolve, invoke, builtin, Sem.run_bind, Sem.run_pure, Result.andThen_ok, List.map_toArray, List.map_cons, List.map_nil, hs, hx, hr]
  exact h v' w' h2 h3 h5
/-- What is at g and in the row has changed; nothing else. -/
structure Ch (g : Nat) (sl : Value) (W W' : World) : Prop where
  os : W'.os = W.os
  output : W'.output = W.output
  size : W.heap.size ≤ W'.heap.size
  block : ∀ k, k < W.heap.size → k ≠ g → sl.ownBlock ≠ some k → W'.heap[k]? = W.heap[k]?
/-- How a tree is, behind what was done to it. -/
structure RTo (B : Nat) (W : World) (g : Nat) (sl : Value) (s' : St) (W' : World) : Prop where
  ch : Ch g sl W W'
  ex : ∃ sl', RT B W' g sl' s' ∧ ∀ b, sl'.ownBlock = some b → sl.ownBlock = some b ∨ W.heap.size ≤ b
theorem RTo.of_gw {B : Nat} {W W' : World} {g : Nat} {sl : Value} {s : St} (h : RT B W g sl s) (G : Gw W W') : RTo B W g sl s W' := ⟨⟨G.os, G.output, G.size, fun k hk _ _ => G.block k hk⟩, _, h.on G, fun _ hb => .inl hb⟩
theorem iC_one {l : List Itm} : ∀ u ∈ iCs l, u.oneCell' = true := by
  intro u hu
  obtain ⟨i, _, hi⟩ := List.mem_flatMap.1 hu
  unfold iC at hi
  simp at hi
  rcases hi with rfl | rfl | rfl <;> rfl
theorem iCs_app (a b : List Itm) : iCs (a ++ b) = iCs a ++ iCs b := by unfold iCs; rw [List.flatMap_append]
theorem RT.cells {B : Nat} {w : World} {g r cap : Nat} {s : St} (h : RT B w g (.slice (some ⟨r, 0, none⟩) s.l.length cap) s) {j : Nat} {v : Value} (hj : (iCs s.l)[j]? = some v) : w.cell? ⟨r, j, none⟩ = some v := by
  rcases h.row.2 with ⟨h0, h1⟩ | ⟨r', cap', cur, h0, h1, h2, h3, h4, h5, h6⟩
  · cases h0
  · cases h0
    rw [← h6, List.getElem?_take] at hj
    rw [cell_of_row w r j cur _ _ h2]
    split at hj
    · simpa using hj
    · cases hj
theorem take_cells {l : List Itm} (k : Nat) : (iCs l).take (k * 3) = iCs (l.take k) := by
  induction k generalizing l with
  | zero => simp [iCs]
  | succ k ih =>
    cases l with
    | nil => simp [iCs]
    | cons i l =>
      have e : iCs (i :: l) = iC i ++ iCs l := by unfold iCs; rw [List.flatMap_cons]
      have e2 : iCs ((i :: l).take (k + 1)) = iC i ++ iCs (l.take k) := by unfold iCs; rw [List.take_succ_cons, List.flatMap_cons]
      rw [e, e2, show (k + 1) * 3 = (iC i).length + k * 3 by rw [iC_len]; omega, List.take_length_add_append, ih]
theorem drop_cells {l : List Itm} (k : Nat) : (iCs l).drop (k * 3) = iCs (l.drop k) := by
  induction k generalizing l with
  | zero => simp
  | succ k ih =>
    cases l with
    | nil => simp [iCs]
    | cons i l =>
      have e : iCs (i :: l) = iC i ++ iCs l := by unfold iCs; rw [List.flatMap_cons]
      rw [e, show (k + 1) * 3 = (iC i).length + k * 3 by rw [iC_len]; omega, List.drop_length_add_append, ih, List.drop_succ_cons]
theorem nil_own {w : World} {v1 : Value} {H : Nat} (at1 : v1.ownBlock = (Value.slice none 0 0).ownBlock ∨ v1.ownBlock = some H) : ∀ b, v1.ownBlock = some b → b = H := by
  intro b hb
  rcases at1 with k | k
  · rw [k] at hb; cases hb
  · rw [k] at hb; cases hb; rfl
theorem own_form {w : World} {B : Nat} {e : TypeId} {n : Nat} {v : Value} {xs : List Value} (h : w.ownsRow B e 3 v n xs) : ∃ A m c, v = .slice A m c := by
  rcases h.2 with ⟨h0, _⟩ | ⟨b, cap, cur, h0, _⟩
  · exact ⟨_, _, _, h0⟩
  · exact ⟨_, _, _, h0⟩
/-- Behind two appends, the first onto nil, and a store. -/
theorem two_apps {B : Nat} {W p1 p2 : World} {g : Nat} {sl v1 v2 : Value} {s : St} {l1 l2 : List Itm} (h : RT B W g sl s) (gr1 : W.drew.grownBy p1 (Value.slice none 0 0).ownBlock) (at1 : v1.ownBlock = (Value.slice none 0 0).ownBlock ∨ v1.ownBlock = some W.drew.heap.size)
    (gr2 : p1.grownBy p2 v1.ownBlock) (at2 : v2.ownBlock = v1.ownBlock ∨ v2.ownBlock = some p1.heap.size) (n : Nat) (hn : n = (l1 ++ l2).length) (own2 : p2.ownsRow B 95 3 v2 n (iCs l1 ++ iCs l2)) (hl : (l1 ++ l2).length ≤ 8) :
    RTo B W g sl ⟨l1 ++ l2, s.nx⟩ (p2.setCell ⟨g, 0, none⟩ v2) := by
  subst hn
  have hg := h.hd.lt
  have e1 : ∀ k, k < W.heap.size → p1.heap[k]? = W.heap[k]? := fun k hk => gr1.block k hk (by simp [Value.ownBlock])
  have z1 : W.heap.size ≤ p1.heap.size := gr1.size
  have e2 : ∀ k, k < W.heap.size → p2.heap[k]? = W.heap[k]? := fun k hk => (gr2.block k (by omega) (fun e => by have := nil_own (w := W) at1 k e.symm; have e3 : W.drew.heap.size = W.heap.size := rfl; omega)).trans (e1 k hk)
  have z2 : p1.heap.size ≤ p2.heap.size := gr2.size
  have hv2 : ∀ b, v2.ownBlock = some b → W.heap.size ≤ b := fun b hb => by
    rcases at2 with k | k
    · rw [k] at hb; have := nil_own (w := W) at1 b hb; have e3 : W.drew.heap.size = W.heap.size := rfl; omega
    · rw [k] at hb; cases hb; omega
  have hng : v2.ownBlock ≠ some g := fun e => by have := hv2 g e; omega
  refine ⟨⟨gr2.os.trans gr1.os, gr2.output.trans gr1.output, ?_, fun k hk hkg _ => ?_⟩, v2, ⟨?_, ?_, hng, h.hB, hl⟩, fun b hb => .inr (hv2 b hb)⟩
  · simp; omega
  · exact (set_other (p := ⟨g, 0, none⟩) hkg).trans (e2 k hk)
  · exact ((h.hd.same (e2 g hg)).put 0 v2)
  · refine ⟨iCs_len _, ?_⟩
    show _ ∨ ∃ g cap cur, _ ∧ _ ∧ _ ∧ _ ∧ _ ∧ _ ∧ _ = iCs (l1 ++ l2)
    rw [iCs_app]
    rcases own2.2 with h0 | ⟨b, cap, cur, h0, h1, h2, h3⟩
    · exact .inl h0
    · exact .inr ⟨b, cap, cur, h0, h1, (set_other (p := ⟨g, 0, none⟩) (fun e => hng (by rw [h0]; simp [Value.ownBlock, e]))).trans h2, h3⟩
set_option maxRecDepth 100000 in
set_option maxHeartbeats 4000000 in
theorem without_any {B : Nat} {W : World} {g : Nat} {r cap : Nat} {s : St} (h : RT B W g (.slice (some ⟨r, 0, none⟩) s.l.length cap) s) (k : Nat) (hk : k < s.l.length) :
    Calls Try.prog 82 #[.pointer (some ⟨g, 0, none⟩), .int .i64 k] W fun e W' => e = .returned (.tuple #[]) ∧ RTo B W g (.slice (some ⟨r, 0, none⟩) s.l.length cap) ⟨s.l.take k ++ s.l.drop (k + 1), s.nx⟩ W' := by
  obtain ⟨i0, hi1, hi2, hi3, hi4⟩ := info_item
  have HI := Lib.hid (And.intro hi1 (And.intro hi2 (And.intro hi3 hi4)))
  have c0 := (box0 h.hd).1
  have f0 := (box0 h.hd).2
  have H := Lib.hid h
  have hl8 := h.len
  have hgl : Hid (g < W.heap.size) := h.hd.lt
  have hrl : Hid (r < W.heap.size) := h.lt r (.inr rfl)
  have hgr : Hid (r ≠ g) := fun e => h.ne (by rw [e]; rfl)
  obtain ⟨hcap, hcm⟩ : s.l.length ≤ cap ∧ cap ≤ maxLen := by
    rcases h.sl.form with ⟨h0, _⟩ | ⟨r', cap', h0, h1, h2, _⟩
    · cases h0
    · cases h0; exact ⟨h1, h2⟩
  have HBw : Hid (B ≤ W.heap.size) := Nat.le_trans h.hB (Nat.le_of_lt h.hd.lt)
  have w1 : IntKind.i64.wrap ((k : Int) + 1) = k + 1 := wrap_in (by omega) (by omega)
  have hkc : k ≤ cap := by omega
  have hki : (k : Int) ≤ k + 1 := by omega
  have hkj : (0 : Int) ≤ (k : Int) + 1 := by omega
  have hkl : (k : Int) + 1 ≤ s.l.length := by omega
  have hk1 : k + 1 ≤ s.l.length := hk
  have hk1c : k + 1 ≤ cap := by omega
  have N1 : Hid (∀ j u, (iCs (s.l.take k))[j]? = some u → W.cell? ((⟨r, 0, none⟩ : Addr).add j) = some u) := fun j u hj => by
    rw [← take_cells, List.getElem?_take] at hj
    split at hj
    · rw [add_eq, Nat.zero_add]; exact h.cells hj
    · cases hj
  have N2 : Hid (∀ p : World, p.heap[r]? = W.heap[r]? → ∀ j u, (iCs (s.l.drop (k + 1)))[j]? = some u → p.cell? ((⟨r, (k + 1) * 3, none⟩ : Addr).add j) = some u) := fun p hp j u hj => by
    rw [← drop_cells, List.getElem?_drop] at hj
    rw [add_eq]; exact (World.cell?_of_block (a := ⟨r, _, none⟩) hp).trans (h.cells hj)
  have L1 : Hid ((iCs (s.l.take k)).length = k * 3) := by show _ = _; rw [iCs_len, List.length_take]; congr 1; omega
  have L2 : Hid ((iCs (s.l.drop (k + 1))).length = (s.l.length - (k + 1)) * 3) := by show _ = _; rw [iCs_len, List.length_drop]
  have LL : Hid (k + (s.l.length - (k + 1)) = (s.l.take k ++ s.l.drop (k + 1)).length) := by show _ = _; rw [List.length_append, List.length_take, List.length_drop]; omega
  clear hi1 hi2 hi3 hi4 h
  have hm8 : Hid (maxLen = 9223372036854775807) := rfl
  by_cases hcc : cap = k + 1
  · subst hcc
    have hE : Hid (s.l.drop (k + 1) = []) := List.drop_eq_nil_of_le (by omega)
    go_enter Try.func82, Try.ntmps82
    go_region_law (first
      | (refine step_append_own _ (by rfl) _ _ _ (by rfl) B 95 i0 _ 3 32 Try.underlying37 HI.out.1 HI.out.2.1 HI.out.2.2.1 HI.out.2.2.2 rfl (by omega) (.slice none 0 0) 0 [] (by rfl) (World.ownsRow_nil _ B _ 3) ⟨r, 0, none⟩ k (k + 1) (iCs (s.l.take k)) (by rfl) L1.out N1.out iC_one (by have := hm8.out; omega) (by omega) HBw.out ?_; intro v1 p1 own1 gr1 at1; have cp : p1.cell? ⟨g, 0, none⟩ = some (.slice (some ⟨r, 0, none⟩) s.l.length (k + 1)) := (World.cell?_of_block (gr1.block g hgl.out (by simp [Value.ownBlock]))).trans c0)
      | (refine step_append_own _ (by rfl) _ _ _ (by rfl) B 95 i0 _ 3 32 Try.underlying37 HI.out.1 HI.out.2.1 HI.out.2.2.1 HI.out.2.2.2 rfl (by omega) v1 (0 + k) ([] ++ iCs (s.l.take k)) (by rfl) own1 ⟨r, 0, none⟩ 0 0 [] (by rfl) (by rfl) (fun j u hj => by cases hj) (fun u hu => by cases hu) (by have := hm8.out; omega) (by omega) (Nat.le_trans HBw.out gr1.size) ?_; intro v2 p2 own2 gr2 at2; obtain ⟨A2, m2, c2, rfl⟩ := own_form own2; have cp2 : p2.cell? ⟨g, 0, none⟩ = some (.slice (some ⟨r, 0, none⟩) s.l.length (k + 1)) := (World.cell?_of_block (gr2.block g (Nat.lt_of_lt_of_le hgl.out gr1.size) (fun e => by have := nil_own (w := W) at1 g e.symm; have e3 : W.drew.heap.size = W.heap.size := rfl; have := hgl.out; omega))).trans cp; have fp2 : p2.frozen? ⟨g, 0, none⟩ = false := (World.frozen?_of_block (gr2.block g (Nat.lt_of_lt_of_le hgl.out gr1.size) (fun e => by have := nil_own (w := W) at1 g e.symm; have e3 : W.drew.heap.size = W.heap.size := rfl; have := hgl.out; omega))).trans ((World.frozen?_of_block (gr1.block g hgl.out (by simp [Value.ownBlock]))).trans f0)))
    all_goals (
      go_wp2
      refine bodyPost_end (results_none rfl _ _ _) rfl ?_
      refine ⟨rfl, two_apps H.out gr1 at1 gr2 at2 (0 + k + 0) (by rw [← LL.out]; omega) (by rw [hE.out]; exact own2) (by rw [← LL.out]; omega)⟩)
  · have hcc' : ¬ (cap = k + 1) := hcc
    go_enter Try.func82, Try.ntmps82
    go_region_law (first
      | (refine step_append_own _ (by rfl) _ _ _ (by rfl) B 95 i0 _ 3 32 Try.underlying37 HI.out.1 HI.out.2.1 HI.out.2.2.1 HI.out.2.2.2 rfl (by omega) (.slice none 0 0) 0 [] (by rfl) (World.ownsRow_nil _ B _ 3) ⟨r, 0, none⟩ k cap (iCs (s.l.take k)) (by rfl) L1.out N1.out iC_one (by have := hm8.out; omega) (by omega) HBw.out ?_; intro v1 p1 own1 gr1 at1; have cp : p1.cell? ⟨g, 0, none⟩ = some (.slice (some ⟨r, 0, none⟩) s.l.length cap) := (World.cell?_of_block (gr1.block g hgl.out (by simp [Value.ownBlock]))).trans c0)
      | (refine step_append_own _ (by rfl) _ _ _ (by rfl) B 95 i0 _ 3 32 Try.underlying37 HI.out.1 HI.out.2.1 HI.out.2.2.1 HI.out.2.2.2 rfl (by omega) v1 (0 + k) ([] ++ iCs (s.l.take k)) (by rfl) own1 ⟨r, (k + 1) * 3, none⟩ (s.l.length - (k + 1)) (cap - (k + 1)) (iCs (s.l.drop (k + 1))) (by rfl) L2.out (N2.out p1 (gr1.block r hrl.out (by simp [Value.ownBlock]))) iC_one (by have := hm8.out; omega) (by omega) (Nat.le_trans HBw.out gr1.size) ?_; intro v2 p2 own2 gr2 at2; obtain ⟨A2, m2, c2, rfl⟩ := own_form own2; have cp2 : p2.cell? ⟨g, 0, none⟩ = some (.slice (some ⟨r, 0, none⟩) s.l.length cap) := (World.cell?_of_block (gr2.block g (Nat.lt_of_lt_of_le hgl.out gr1.size) (fun e => by have := nil_own (w := W) at1 g e.symm; have e3 : W.drew.heap.size = W.heap.size := rfl; have := hgl.out; omega))).trans cp; have fp2 : p2.frozen? ⟨g, 0, none⟩ = false := (World.frozen?_of_block (gr2.block g (Nat.lt_of_lt_of_le hgl.out gr1.size) (fun e => by have := nil_own (w := W) at1 g e.symm; have e3 : W.drew.heap.size = W.heap.size := rfl; have := hgl.out; omega))).trans ((World.frozen?_of_block (gr1.block g hgl.out (by simp [Value.ownBlock]))).trans f0)))
    all_goals (
      go_wp2
      refine bodyPost_end (results_none rfl _ _ _) rfl ?_
      refine ⟨rfl, two_apps H.out gr1 at1 gr2 at2 (0 + k + (s.l.length - (k + 1))) (by rw [← LL.out]; omega) own2 (by rw [← LL.out]; omega)⟩)
end Go.Proofs.Ytckoapfmfpmdgaa

namespace Go.Proofs.Ytckoapfmfpmdgaa
open Go.ChangeShapes Go.WideShapes Go.ChangeAt Go.RowKit Go.Joins
set_option linter.unusedVariables false
set_option linter.unusedSimpArgs false

/-- What Find answers. -/
def fV (r : Int × Bool × Int) : Value := .tuple #[.int .i64 r.1, .bool r.2.1, .int .u16 r.2.2]
set_option maxHeartbeats 4000000 in
theorem rfind_any {B : Nat} {W : World} {g : Nat} {sl : Value} {s : St} (h : RT B W g sl s) (p : ByteArray) (hp : p.size ≤ 140737488351232) : Calls Try.prog 47 #[.pointer (some ⟨g, 0, none⟩), .string p] W fun e W' => e = .returned (fV (findT s.l p.data.toList)) ∧ Gw W W' := by
  have F := fun w => rname_any p w
  have T := fun w (k : Gw W w) => above_any (h.on k) p hp
  have hn : ∀ b w, (Op.unary .not (.bool b)).run Try.prog w = .ok (.bool (!b)) w := fun _ _ => rfl
  have GG : Gw W W := Gw.refl W
  unfold findT fV
  cases hb : nameB p.data.toList with
  | false =>
    rw [hb] at F
    simp only [Bool.false_eq_true, if_false]
    clear hb T
    go_enter Try.func47, Try.ntmps47
    go_wp2_with (go_at_call 44; with_reducible refine (F _).mono ?_; rintro e w' ⟨rfl, G1⟩; have GG := GG.trans G1)
    go_ret3
    exact ⟨rfl, GG⟩
  | true =>
    rw [hb] at F
    simp only [if_true]
    clear hb
    by_cases h0 : abv s.l p.data.toList = 0
    · simp only [h0, if_true]
      rw [h0] at T
      clear h0
      have A := fun w (k : Gw W w) => at_any (h.on k) p
      cases hk : look s.l p.data.toList with
      | none =>
        rw [ix_none hk] at A
        clear hk
        go_enter Try.func47, Try.ntmps47
        go_wp2_with (first
          | (go_at_call 44; with_reducible refine (F _).mono ?_; rintro e w' ⟨rfl, G1⟩; have GG := GG.trans G1)
          | (go_at_call 80; with_reducible refine (T _ GG).mono ?_; rintro e w' ⟨rfl, G1⟩; have GG := GG.trans G1)
          | (go_at_call 45; with_reducible refine (A _ GG).mono ?_; rintro e w' ⟨rfl, G1⟩; have GG := GG.trans G1))
        go_ret3
        exact ⟨rfl, GG⟩
      | some i =>
        obtain ⟨k, r, cap, hix, _, hlt, rfl, hcap, hcm, D0, D1, D2⟩ := sl_look h.sl hk
        have C0 := (box0 h.hd).1
        rw [hix] at A
        have hk0 : decide ((k : Int) < 0) = false := decide_eq_false (by omega)
        clear hk hix
        show Calls _ _ _ _ fun e W' => e = .returned (.tuple #[.int .i64 i.n, .bool i.d, .int .u16 0]) ∧ Gw W W'
        generalize i.d = dd at *
        generalize i.n = nn at *
        go_enter Try.func47, Try.ntmps47
        go_upto_region 9 with (first
          | (go_at_call 44; with_reducible refine (F _).mono ?_; rintro e w' ⟨rfl, G1⟩; have GG := GG.trans G1)
          | (go_at_call 80; with_reducible refine (T _ GG).mono ?_; rintro e w' ⟨rfl, G1⟩; have GG := GG.trans G1)
          | (go_at_call 45; with_reducible refine (A _ GG).mono ?_; rintro e w' ⟨rfl, G1⟩; have GG := GG.trans G1; have c0 := GG.cell C0; have d1 := GG.cell D1; have d2 := GG.cell D2))
        go_region
        go_wp2
        go_ret3
        exact ⟨rfl, GG.drew⟩
    · simp only [h0, if_false]
      have hne : (abv s.l p.data.toList == 0) = false := by simp [h0]
      generalize abv s.l p.data.toList = ee at *
      clear h0
      go_enter Try.func47, Try.ntmps47
      go_wp2_with (first
        | (go_at_call 44; with_reducible refine (F _).mono ?_; rintro e w' ⟨rfl, G1⟩; have GG := GG.trans G1)
        | (go_at_call 80; with_reducible refine (T _ GG).mono ?_; rintro e w' ⟨rfl, G1⟩; have GG := GG.trans G1))
      go_ret3
      exact ⟨rfl, GG⟩
set_option maxHeartbeats 4000000 in
theorem rmany_any {B : Nat} {W : World} {g : Nat} {sl : Value} {s : St} (h : RT B W g sl s) (hsm : Sml s.l) (p : ByteArray) (hp : p.size ≤ 140737488351232) : Calls Try.prog 51 #[.pointer (some ⟨g, 0, none⟩), .string p] W fun e W' => e = .returned (.int .u16 (manyT s.l p.data.toList)) ∧ Gw W W' := by
  have F := rfind_any h p hp
  have M := fun w (k : Gw W w) => many_any (h.on k) hsm p
  have hle := many_le s.l p.data.toList
  have hl8 := h.len
  have GG : Gw W W := Gw.refl W
  unfold manyT
  unfold fV at F
  generalize findT s.l p.data.toList = r at *
  obtain ⟨x, d, e⟩ := r
  generalize manyL s.l p.data.toList = m at *
  have w1 : IntKind.u16.wrap (m : Int) = m := by
    simp only [IntKind.wrap, IntKind.bits, IntKind.signed]
    simp
    omega
  simp only
  by_cases h0 : e = 0
  · subst h0
    simp only [if_true]
    cases d <;>
    · simp only [if_true, Bool.false_eq_true, if_false]
      go_enter Try.func51, Try.ntmps51
      go_wp2_with (first
        | (go_at_call 47; with_reducible refine F.mono ?_; rintro e w' ⟨rfl, G1⟩; have GG := GG.trans G1)
        | (go_at_call 81; with_reducible refine (M _ GG).mono ?_; rintro e w' ⟨rfl, G1⟩; have GG := GG.trans G1))
      go_ret
      exact ⟨rfl, GG⟩
  · have hne : (e == 0) = false := by simp [h0]
    simp only [h0, if_false]
    go_enter Try.func51, Try.ntmps51
    go_wp2_with (go_at_call 47; with_reducible refine F.mono ?_; rintro e w' ⟨rfl, G1⟩; have GG := GG.trans G1)
    go_ret
    exact ⟨rfl, GG⟩
end Go.Proofs.Ytckoapfmfpmdgaa

namespace Go.Proofs.Ytckoapfmfpmdgaa
open Go.ChangeShapes Go.WideShapes Go.ChangeAt Go.RowKit Go.Joins
set_option linter.unusedVariables false
set_option linter.unusedSimpArgs false

/-- A tree of its own. -/
structure RNew (B : Nat) (W : World) (v : Value) (s : St) (W' : World) : Prop where
  gw : Gw W W'
  ex : ∃ g sl, v = .pointer (some ⟨g, 0, none⟩) ∧ RT B W' g sl s ∧ W.heap.size ≤ g ∧ ∀ b, sl.ownBlock = some b → W.heap.size ≤ b
end Go.Proofs.Ytckoapfmfpmdgaa
