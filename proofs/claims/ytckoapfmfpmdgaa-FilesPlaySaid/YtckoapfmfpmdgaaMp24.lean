/-
  Parts of the proof, joined: TreeTj, TreeTk, TreeTl.
-/
import Derived.Test.YtckoapfmfpmdgaaMp23

namespace Go.Proofs.Ytckoapfmfpmdgaa
open Go.ChangeShapes Go.WideShapes Go.ChangeAt Go.RowKit Go.Joins
set_option linter.unusedVariables false
set_option linter.unusedSimpArgs false

theorem ChF.trans {F F' : Nat → Prop} {a b c : World} (h : ChF F a b) (k : ChF F' b c) (hs : ∀ j, F' j → F j ∨ a.heap.size ≤ j) : ChF F a c :=
  ⟨k.os.trans h.os, k.output.trans h.output, Nat.le_trans h.size k.size, fun j hj hn => (k.block j (Nat.lt_of_lt_of_le hj h.size) (fun hf => by
    rcases hs j hf with q | q
    · exact hn q
    · omega)).trans (h.block j hj hn)⟩
theorem Gw.chf {F : Nat → Prop} {a b : World} (h : Gw a b) : ChF F a b := ⟨h.os, h.output, h.size, fun k hk _ => h.block k hk⟩
theorem But.chf {g : Nat} {a b : World} (h : But g a b) : ChF (fun k => k = g) a b := ⟨h.os, h.output, h.size, fun k hk hn => h.block k hk hn⟩
theorem turn_chf {b : Nat} {V V' : World} (h : V.mapTurned V' b) : ChF (fun k => k = b) V V' := by
  have hg := h.grown
  exact ⟨hg.os, hg.output, hg.size, fun k hk hn => hg.block k hk (fun e => hn (by injection e))⟩
theorem own_tight {w : World} {b n : Nat} {D : DataW Unit} {l : List Itm} (h : w.ownsMap Try.prog tK eElem b n D) (hM : MpIs D l) : w.ownsMap Try.prog tK eElem b l.length D := by
  have hs := hM.size
  obtain ⟨es, clock, hb, F, h1, rfl⟩ := h
  refine ⟨es, clock, hb, F, ?_, rfl⟩
  rw [← hs, Maps.size_eq, length_sorted]
  simp
theorem mt_turn {V V' : World} {g b n : Nat} {s : St} {D : DataW Unit} {l : List Itm} (h : MT V g (some b) s) (ht : V.mapTurned V' b) (ho : V'.ownsMap Try.prog tK eElem b n D) (hM : MpIs D l) : MT V' g (some b) ⟨l, s.nx⟩ :=
  ⟨h.hd.same (ht.grown.block g h.hd.lt (fun e => h.ne rfl (by injection e with e; exact e.symm))), .inr ⟨b, D, rfl, own_tight ho hM, hM⟩⟩
theorem mt_next {V : World} {g : Nat} {m : Option Nat} {s : St} (h : MT V g m s) (x : Int) : MT (V.setCell ⟨g, 1, none⟩ (.int .i64 x)) g m ⟨s.l, x⟩ := by
  refine ⟨h.hd.put 1 _, ?_⟩
  rcases h.mp with h1 | ⟨b, D, h1, h2, h3⟩
  · exact .inl h1
  · exact .inr ⟨b, D, h1, mown_same h2 (set_other (h.ne h1)), h3⟩
theorem mt_born {V : World} {g : Nat} {s : St} (h : MT V g none s) : MT ((V.alloc (.map #[] 0)).setCell ⟨g, 0, none⟩ (.map (some V.heap.size))) g (some V.heap.size) s := by
  have hl : s.l = [] := by
    rcases h.mp with ⟨_, h1⟩ | ⟨b, D, h1, _⟩
    · exact h1
    · cases h1
  refine ⟨(h.hd.on (Gw.alloc V _)).put 0 _, .inr ⟨_, .map [], rfl, ?_, by rw [hl]; exact MpIs.start⟩⟩
  have hlt := h.hd.lt
  rw [hl]
  exact mown_same (World.ownsMap_made V _ _ _) (set_other (show V.heap.size ≠ g by omega))
/-- delete in a drawn region. -/
theorem step_delete (w : World) {ops : Array Oper} {o : Oper} {a : Act} {K : Act → World → Prop} {Q : Exit → Act → World → Prop} {E : Prop} (hgd : o.guard = none) (m x : Operand)
    (ho : o.op = .call { callee := .builtin .delete, args := #[m, x], argTypes := #[tMp, tK] }) (b n : Nat) (D : DataW Unit) (hm : a.eval m = .map (some b)) (hown : w.ownsMap Try.prog tK eElem b n D) (p : Pr) (hp : Pk p) (hx : a.eval x = tV p)
    (h : ∀ w', w'.ownsMap Try.prog tK eElem b n (D.del (nkl p)) → w.mapTurned w' b → K (a.put o.dst (.tuple #[])) w') :
    if Region.wanted o (yielded ops a.tmps) = true then Oper.wp Try.prog o a w K Q else E := by
  have hw : Region.wanted o (yielded ops a.tmps) = true := by simp [Region.wanted, hgd]
  rw [if_pos hw]
  obtain ⟨w', hrun, r1, r2⟩ := hown.drop keyedName Try.underlying87 (key_of hp) o.type
  unfold Oper.wp
  simp [execOp, ho, resolve, invoke, builtin, hm, hx, hrun, Result.andThen]
  exact h w' r1 r2
section
variable {W : World} {g : Nat} {m : Option Nat} {s : St}
set_option maxHeartbeats 2000000 in
theorem pfind_any (h : MT W g m s) (ok : Ok s.l) (p : ByteArray) (hp : p.size ≤ 140737488351232) : Calls Try.prog 27 #[.pointer (some ⟨g, 0, none⟩), .string p] W fun e W' => e = .returned (fV (findT s.l p.data.toList)) ∧ Gw W W' := by
  have T0 := fun w => tof_any p w hp
  have F0 : ∀ w, Gw W w → Calls Try.prog 57 #[.pointer (some ⟨g, 0, none⟩), tV (spl p.data.toList)] w fun e W' => e = .returned (fnV (findT s.l p.data.toList)) ∧ Gw w W' := fun w G => by
    rw [← fn_path ok]
    exact tfind_any (h.on G) ok _ (pk_spl _)
  clear h ok
  generalize findT s.l p.data.toList = f at F0 ⊢
  obtain ⟨n, d, no⟩ := f
  go_enter Try.func27, Try.ntmps27
  go_upto_region 4 with (first
    | (go_at_call 53; with_reducible refine (T0 _).mono ?_; rintro e w1 ⟨rfl, G1⟩)
    | (go_at_call 57; with_reducible refine (F0 _ G1).mono ?_; rintro e w2 ⟨rfl, G2⟩))
  have g2 := (G1.trans G2).trans (Gw.alloc w2 (.cells #[.int .i64 n, .bool d] 100))
  go_region
  go_wp2
  go_ret3
  exact ⟨rfl, g2.drew⟩
set_option maxHeartbeats 2000000 in
theorem pmany_any (h : MT W g m s) (ok : Ok s.l) (hl8 : s.l.length ≤ 8) (p : ByteArray) (hp : p.size ≤ 140737488351232) : Calls Try.prog 26 #[.pointer (some ⟨g, 0, none⟩), .string p] W fun e W' => e = .returned (.int .u16 (manyT s.l p.data.toList)) ∧ Gw W W' := by
  have hn : ∀ b w, (Op.unary .not (.bool b)).run Try.prog w = .ok (.bool (!b)) w := fun _ _ => rfl
  have T0 := fun w => tof_any p w hp
  have F0 : ∀ w, Gw W w → Calls Try.prog 57 #[.pointer (some ⟨g, 0, none⟩), .agg #[.string (bs (spl p.data.toList).1), .string (bs (spl p.data.toList).2)]] w fun e W' => e = .returned (fnV (findT s.l p.data.toList)) ∧ Gw w W' := fun w G => by
    rw [← fn_path ok]
    exact tfind_any (h.on G) ok _ (pk_spl _)
  have M0 : Hid ((findT s.l p.data.toList).2.2 = 0 → ∀ w, Gw W w → Calls Try.prog 58 #[.pointer (some ⟨g, 0, none⟩), .agg #[.string (bs (spl p.data.toList).1), .string (bs (spl p.data.toList).2)]] w fun e W' => e = .returned (.int .i64 (manyL s.l p.data.toList)) ∧ Gw w W') := fun hz w G => by
    rw [← mn_path ok (find_zero hz).1]
    exact tmany_any (h.on G) ok hl8 (fnI_ne (by rw [fn_path ok]; exact hz)) _ (pk_spl _)
  have hml : manyL s.l p.data.toList ≤ 8 := Nat.le_trans (List.length_filter_le _ _) hl8
  unfold manyT
  clear h ok hl8
  generalize findT s.l p.data.toList = f at F0 M0 ⊢
  generalize manyL s.l p.data.toList = mc at M0 hml ⊢
  generalize spl p.data.toList = q at T0 F0 M0
  obtain ⟨n, d, no⟩ := f
  simp only at M0 ⊢
  have hw : IntKind.u16.wrap (mc : Int) = mc := by
    simp only [IntKind.wrap, IntKind.bits, IntKind.signed]
    simp
    omega
  by_cases e0 : no = 0
  · have M1 := M0.out e0
    subst e0
    clear M0
    rw [if_pos rfl]
    go_enter Try.func26, Try.ntmps26
    go_upto_region 5 with (first
      | (go_at_call 53; with_reducible refine (T0 _).mono ?_; rintro e w1 ⟨rfl, G1⟩; have G1a := G1.trans (Gw.alloc w1 (.cells #[.string (bs q.1), .string (bs q.2)] 98)); have HB := Has.new w1 98 #[.string (bs q.1), .string (bs q.2)])
      | (go_at_call 57; with_reducible refine (F0 _ G1a).mono ?_; rintro e w2 ⟨rfl, G2⟩))
    have g2 := (G1a.trans G2).trans (Gw.alloc w2 (.cells #[.int .i64 n, .bool d] 100))
    have HB3 := (HB.on G2).on (Gw.alloc w2 (.cells #[.int .i64 n, .bool d] 100))
    obtain ⟨x0, _⟩ := box0 HB3
    obtain ⟨x1, _⟩ := box1 HB3
    clear F0 T0
    cases d with
    | true =>
      go_wp2_with (go_at_call 58; with_reducible refine (M1 _ g2).mono ?_; rintro e w3 ⟨rfl, G3⟩)
      go_ret
      exact ⟨rfl, g2.trans G3⟩
    | false =>
      go_wp2
      go_ret
      exact ⟨rfl, g2⟩
  · rw [if_neg e0]
    have e1 : (no == 0) = false := beq_false_of_ne e0
    clear M0
    go_enter Try.func26, Try.ntmps26
    go_wp2_with (first
      | (go_at_call 53; with_reducible refine (T0 _).mono ?_; rintro e w1 ⟨rfl, G1⟩; have G1a := G1.trans (Gw.alloc w1 (.cells #[.string (bs q.1), .string (bs q.2)] 98)))
      | (go_at_call 57; with_reducible refine (F0 _ G1a).mono ?_; rintro e w2 ⟨rfl, G2⟩))
    go_ret
    exact ⟨rfl, (G1a.trans G2).trans (Gw.alloc _ _)⟩
theorem plen_any (h : MT W g m s) : Calls Try.prog 20 #[.pointer (some ⟨g, 0, none⟩)] W fun e W' => e = .returned (.int .i64 s.l.length) ∧ Gw W W' := by
  have c0 := h.hd.cell 0
  have c0 : W.cell? ⟨g, 0, none⟩ = some (.map m) := c0
  have ln := h.len
  clear h
  generalize s.l.length = n at ln ⊢
  go_enter Try.func20, Try.ntmps20
  go_wp2
  go_ret
  exact ⟨rfl, Gw.refl _⟩
end
end Go.Proofs.Ytckoapfmfpmdgaa

namespace Go.Proofs.Ytckoapfmfpmdgaa
open Go.ChangeShapes Go.WideShapes Go.ChangeAt Go.RowKit Go.Joins
set_option linter.unusedVariables false
set_option linter.unusedSimpArgs false

/-- What was done to a tree. -/
structure MkP (g : Nat) (m : Option Nat) (s' : St) (W W' : World) : Prop where
  ch : ChF (mtF g m) W W'
  ex : ∃ m', MT W' g m' s' ∧ ∀ k, m' = some k → m = some k ∨ W.heap.size ≤ k
theorem MkP.of_gw {W W' : World} {g : Nat} {m : Option Nat} {s : St} (h : MT W g m s) (G : Gw W W') : MkP g m s W W' := ⟨G.chf, m, h.on G, fun _ hk => .inl hk⟩
theorem copy_fin {W w1 : World} {m' : Option Nat} {l : List Itm} {nx : Int} (G : Gw W w1) (hm : ∀ k, m' = some k → W.heap.size ≤ k ∧ k < w1.heap.size) (hM : (m' = none ∧ l = []) ∨ ∃ b D, m' = some b ∧ w1.ownsMap Try.prog tK eElem b l.length D ∧ MpIs D l) :
    Gw W (w1.alloc (.cells #[.map m', .int .i64 nx] 89)) ∧ W.heap.size ≤ w1.heap.size ∧ ∃ m2, MT (w1.alloc (.cells #[.map m', .int .i64 nx] 89)) w1.heap.size m2 ⟨l, nx⟩ ∧ ∀ k, m2 = some k → W.heap.size ≤ k := by
  refine ⟨G.trans (Gw.alloc _ _), G.size, m', ⟨Has.new _ _ _, ?_⟩, fun k hk => (hm k hk).1⟩
  rcases hM with h1 | ⟨b, D, h1, h2, h3⟩
  · exact .inl h1
  · exact .inr ⟨b, D, h1, mown_same h2 (Below.heap_alloc w1 _ b h2.lt), h3⟩
theorem drop_fin {W V w3 : World} {g b n : Nat} {l : List Itm} {nx : Int} {D : DataW Unit} {pl : List UInt8} {q : Pr} (h : MT W g (some b) ⟨l, nx⟩) (G : Gw W V) (ok : Ok l) (hq : q = spl pl) (hn : nameB pl = true) (hM : MpIs D l) (own : w3.ownsMap Try.prog tK eElem b n (D.del (nkl q))) (turn : V.drew.mapTurned w3 b) : MkP g (some b) ⟨l.eraseP (is pl), nx⟩ W w3 := by
  subst hq
  have hm := mt_turn (h.on G.drew) turn own (hM.del ok.nm hn)
  rw [← erase_filter ok.nd] at hm
  exact ⟨(Gw.chf (F := mtF g (some b)) G.drew).trans (turn_chf turn) (fun j hj => .inl (.inr (by rw [hj]))), _, hm, fun k hk => .inl hk⟩
section
variable {W : World} {g : Nat} {m : Option Nat} {s : St}
set_option maxHeartbeats 2000000 in
theorem pcopy_any (h : MT W g m s) : Calls Try.prog 22 #[.pointer (some ⟨g, 0, none⟩)] W fun e W' => ∃ g', e = .returned (.pointer (some ⟨g', 0, none⟩)) ∧ Gw W W' ∧ W.heap.size ≤ g' ∧ ∃ m', MT W' g' m' s ∧ ∀ k, m' = some k → W.heap.size ≤ k := by
  obtain ⟨l, nx⟩ := s
  have C0 : W.cell? ⟨g, 0, none⟩ = some (.map m) := h.hd.cell 0
  have C1 : W.cell? ⟨g, 1, none⟩ = some (.int .i64 nx) := h.hd.cell 1
  have CL : Calls Try.prog 52 #[.map m] W.drew fun e w1 => ∃ m', e = .returned (.map m') ∧ Gw W.drew w1 ∧ (∀ k, m' = some k → W.heap.size ≤ k ∧ k < w1.heap.size) ∧ ((m' = none ∧ l = []) ∨ ∃ b D, m' = some b ∧ w1.ownsMap Try.prog tK eElem b l.length D ∧ MpIs D l) := by
    rcases h.mp with ⟨rfl, h2⟩ | ⟨b, D, rfl, h2, h3⟩
    · exact (AnyW.maps_Clone_nil Try.laysClone W.drew).mono fun e w' ⟨he, hw⟩ => ⟨none, he, by rw [hw]; exact Gw.refl _, fun k hk => (by cases hk), .inl ⟨rfl, h2⟩⟩
    · exact (AnyW.maps_Clone_owns Try.laysClone tK eElem b _ D W.drew h2).mono fun e w' ⟨he, h4, _, h5⟩ => ⟨some _, he, Below.gw h5, fun k hk => (by cases hk; exact ⟨Nat.le_refl _, h4.lt⟩), .inr ⟨_, D, rfl, h4, h3⟩⟩
  clear h
  go_enter Try.func22, Try.ntmps22
  go_upto_region 3 with fail
  go_region_law (first
    | (rw [if_pos (by rfl)]; go_simp; go_at_call 52; refine CL.mono ?_; rintro e w1 ⟨m', rfl, G1, hm', hM⟩; have c1 := G1.cell (show W.drew.cell? ⟨g, 1, none⟩ = _ from C1))
    | fail)
  all_goals (
    go_wp2
    go_ret
    exact ⟨_, rfl, copy_fin ((Gw.refl W).drew.trans G1) hm' hM⟩)
set_option maxHeartbeats 2000000 in
theorem pdrop_any (h : MT W g m s) (ok : Ok s.l) (hl8 : s.l.length ≤ 8) (p : ByteArray) (hp : p.size ≤ 140737488351232) (dir : Bool) : Calls Try.prog 24 #[.pointer (some ⟨g, 0, none⟩), .string p, .bool dir] W fun e W' => e = .returned (.int .u16 (dropT s p.data.toList dir).1) ∧ MkP g m (dropT s p.data.toList dir).2 W W' := by
  have T0 := fun w => tof_any p w hp
  have M0 : ∀ w, Gw W w → Calls Try.prog 55 #[.pointer (some ⟨g, 0, none⟩), .agg #[.string (bs (spl p.data.toList).1), .string (bs (spl p.data.toList).2)], .bool dir] w fun e W' => e = .returned (.int .u16 (dpI s.l (spl p.data.toList) dir)) ∧ Gw w W' := fun w G => mayDrop_any (h.on G) ok hl8 _ (pk_spl _) dir
  obtain ⟨l, nx⟩ := s
  obtain ⟨d1, d2⟩ := dp_path ok nx p.data.toList dir
  rw [← d1]
  simp only at M0 hl8
  have HOK := Lib.hid ok
  have HM := Lib.hid h
  have HD := Lib.hid d2
  have HF : Hid (dpI l (spl p.data.toList) dir = 0 → nameB p.data.toList = true ∧ l ≠ []) := fun hz => by
    unfold dpI at hz
    by_cases e0 : (fnI l (spl p.data.toList)).2.2 = 0
    · exact ⟨(find_zero (by rw [← fn_path ok]; exact e0)).1, fnI_ne e0⟩
    · rw [if_neg e0] at hz; exact absurd hz e0
  clear h ok d1 d2
  obtain ⟨pl, hpl⟩ : ∃ pl, pl = p.data.toList := ⟨_, rfl⟩
  rw [← hpl] at T0 M0 HD HF ⊢
  obtain ⟨q, hq⟩ : ∃ q, q = spl pl := ⟨_, rfl⟩
  rw [← hq] at T0 M0 HD HF ⊢
  have HQ := Lib.hid hq
  clear hq hpl
  generalize hr : dpI l q dir = r at *
  clear hr
  by_cases e0 : r = 0
  · subst e0
    have HF2 := Lib.hid (HF.out rfl)
    have C0 : ∀ w, Gw W w → w.cell? ⟨g, 0, none⟩ = some (.map m) := fun w G => (HM.out.hd.on G).cell 0
    go_enter Try.func24, Try.ntmps24
    go_upto_region 7 with (first
      | (go_at_call 53; with_reducible refine (T0 _).mono ?_; rintro e w1 ⟨rfl, G1⟩; have G1a := G1.trans (Gw.alloc w1 (.cells #[.string (bs q.1), .string (bs q.2)] 98)); have HB := Has.new w1 98 #[.string (bs q.1), .string (bs q.2)])
      | (go_at_call 55; with_reducible refine (M0 _ G1a).mono ?_; rintro e w2 ⟨rfl, G2⟩))
    have g2 := Lib.hid (G1a.trans G2)
    have HB3 := HB.on G2
    obtain ⟨x0, _⟩ := box0 HB3
    obtain ⟨x1, _⟩ := box1 HB3
    have c2 := C0 _ g2.out
    obtain ⟨hnm, hne⟩ := HF2.out
    have HNM := Lib.hid hnm
    clear C0 M0 T0 HB HB3 G1 G2 hnm
    rcases (HM.out.on g2.out).mp with ⟨_, h2⟩ | ⟨b, D, rfl, h2, h3⟩
    · exact absurd h2 hne
    have HO := Lib.hid h2
    have HP := Lib.hid h3
    have hp3 := pk_spl pl
    rw [← HQ.out] at hp3
    clear h2 h3 hne
    go_region_law (first
      | (refine step_delete _ (by rfl) _ _ (by rfl) b _ D (by rfl) HO.out q hp3 (by rfl) ?_; intro w3 own3 turn3)
      | fail)
    all_goals (
      go_wp2
      go_ret
      exact ⟨rfl, by rw [HD.out]; exact drop_fin HM.out g2.out HOK.out HQ.out HNM.out HP.out own3 turn3⟩)
  · have e1 : (r == 0) = false := beq_false_of_ne e0
    have HR := Lib.hid e0
    go_enter Try.func24, Try.ntmps24
    go_wp2_with (first
      | (go_at_call 53; with_reducible refine (T0 _).mono ?_; rintro e w1 ⟨rfl, G1⟩; have G1a := G1.trans (Gw.alloc w1 (.cells #[.string (bs q.1), .string (bs q.2)] 98)))
      | (go_at_call 55; with_reducible refine (M0 _ G1a).mono ?_; rintro e w2 ⟨rfl, G2⟩))
    go_ret
    exact ⟨rfl, by rw [HD.out, if_neg HR.out]; exact MkP.of_gw HM.out (G1a.trans G2)⟩
end
end Go.Proofs.Ytckoapfmfpmdgaa

namespace Go.Proofs.Ytckoapfmfpmdgaa
open Go.ChangeShapes Go.WideShapes Go.ChangeAt Go.RowKit Go.Joins
set_option linter.unusedVariables false
set_option linter.unusedSimpArgs false

theorem ChF.mono {F F' : Nat → Prop} {a b : World} (h : ChF F a b) (hs : ∀ k, F k → F' k) : ChF F' a b := ⟨h.os, h.output, h.size, fun k hk hn => h.block k hk (fun e => hn (hs k e))⟩
theorem mk_zero {l : List Itm} (ok : Ok l) {p : List UInt8} {dir : Bool} (h : mkI l (spl p) dir = 0) : nameB p = true ∧ look l p = none ∧ l.length < 8 := by
  unfold mkI at h
  rw [pl_path ok] at h
  cases hn : nameB p with
  | false => rw [hn] at h; simp at h
  | true =>
    rw [hn] at h
    simp only [if_true] at h
    by_cases ha : abv l p = 0
    · rw [if_pos ha, nlook_look ok hn] at h
      cases hk : look l p with
      | some i => rw [hk] at h; simp at h
      | none =>
        rw [hk] at h
        simp only at h
        split at h
        · cases h
        · split at h
          · cases h
          · rename_i h8; exact ⟨rfl, rfl, by omega⟩
    · rw [if_neg ha] at h; exact absurd h ha
theorem snoc_perm {l : List Itm} {p : List UInt8} {i : Itm} (h : look l p = none) : (i :: l.filter (fun i => i.p != p)).Perm (l ++ [i]) := by
  rw [not_filter (look_not h)]
  exact (List.perm_append_comm (l₁ := [i]) (l₂ := l))
/-- Behind Make's store and its new number. -/
theorem make_fin {V w3 : World} {g b n : Nat} {l : List Itm} {nx : Int} {D : DataW Unit} {pl : List UInt8} {q : Pr} {dir : Bool} (h : MT V g (some b) ⟨l, nx⟩) (ok : Ok l) (hq : q = spl pl) (hn : nameB pl = true) (hk : look l pl = none) (hM : MpIs D l)
    (own : w3.ownsMap Try.prog tK eElem b n (D.put (nkl q) (entD nx dir))) (turn : V.mapTurned w3 b) : MT (w3.setCell ⟨g, 1, none⟩ (.int .i64 (nx + 1))) g (some b) ⟨l ++ [⟨pl, dir, nx⟩], nx + 1⟩ ∧ ChF (fun k => k = g ∨ k = b) V (w3.setCell ⟨g, 1, none⟩ (.int .i64 (nx + 1))) := by
  subst hq
  have hm := mt_turn h turn own ((hM.put ok.nm hn nx dir).perm (snoc_perm hk))
  exact ⟨mt_next hm (nx + 1), ((turn_chf turn).mono (fun j hj => .inr hj)).trans (But.set g w3 1 _).chf (fun j hj => .inl (.inl hj))⟩
set_option maxHeartbeats 4000000 in
theorem pmake_any {W : World} {g : Nat} {m : Option Nat} {s : St} (h : MT W g m s) (ok : Ok s.l) (hl8 : s.l.length ≤ 8) (p : ByteArray) (hp : p.size ≤ 140737488351232) (dir : Bool) (n0 : 0 ≤ s.nx) (n1 : s.nx ≤ 4611686018427387904) :
    Calls Try.prog 23 #[.pointer (some ⟨g, 0, none⟩), .string p, .bool dir] W fun e W' => e = .returned (mV (makeT s p.data.toList dir).1) ∧ MkP g m (makeT s p.data.toList dir).2 W W' := by
  have T0 := fun w => tof_any p w hp
  have M0 : ∀ w, Gw W w → Calls Try.prog 54 #[.pointer (some ⟨g, 0, none⟩), .agg #[.string (bs (spl p.data.toList).1), .string (bs (spl p.data.toList).2)], .bool dir] w fun e W' => e = .returned (.int .u16 (mkI s.l (spl p.data.toList) dir)) ∧ Gw w W' := fun w G => mayMake_any (h.on G) ok _ (pk_spl _) dir
  obtain ⟨l, nx⟩ := s
  rw [mk_path ok nx p.data.toList dir]
  simp only at M0 n0 n1 hl8
  have HOK := Lib.hid ok
  have HM := Lib.hid h
  have HMZ0 : Hid (mkI l (spl p.data.toList) dir = 0 → nameB p.data.toList = true ∧ look l p.data.toList = none ∧ l.length < 8) := fun hz => mk_zero ok hz
  have HRM : Hid (l.length < maxLen) := by have : maxLen = 9223372036854775807 := rfl; show _ < _; omega
  have hwr : wrap64 (nx + 1) = nx + 1 := i64_wrap_in (nx + 1) (by omega) (by omega)
  clear h ok hl8 n0 n1
  obtain ⟨pl, hpl⟩ : ∃ pl, pl = p.data.toList := ⟨_, rfl⟩
  rw [← hpl] at T0 M0 HMZ0 ⊢
  have HPK := Lib.hid (pk_spl pl)
  obtain ⟨q, hq⟩ : ∃ q, q = spl pl := ⟨_, rfl⟩
  rw [← hq] at T0 M0 HMZ0 HPK ⊢
  have HQ := Lib.hid hq
  clear hq hpl
  generalize hr : mkI l q dir = r at *
  clear hr
  by_cases e0 : r = 0
  · subst e0
    have HMZ := Lib.hid (HMZ0.out rfl)
    have C0 : ∀ w, Gw W w → w.cell? ⟨g, 0, none⟩ = some (.map m) := fun w G => (HM.out.hd.on G).cell 0
    have hmm := @run_makeMap Try.prog
    rw [if_pos rfl]
    clear HMZ0
    go_enter Try.func23, Try.ntmps23
    go_upto_region 7 with (first
      | (go_at_call 53; with_reducible refine (T0 _).mono ?_; rintro e w1 ⟨rfl, G1⟩; have G1a := G1.trans (Gw.alloc w1 (.cells #[.string (bs q.1), .string (bs q.2)] 98)); have HB := Has.new w1 98 #[.string (bs q.1), .string (bs q.2)])
      | (go_at_call 54; with_reducible refine (M0 _ G1a).mono ?_; rintro e w2 ⟨rfl, G2⟩))
    have g2 := Lib.hid (G1a.trans G2)
    have HB3 := Lib.hid (HB.on G2)
    have c2 := C0 _ g2.out
    have HM2 := Lib.hid (HM.out.on g2.out)
    clear C0 M0 T0 HB G1a G2
    generalize w1.heap.size = nb at *
    clear G1
    cases m with
    | none =>
    have hq0 := fun w => run_eql_map_nil_sl (P := Try.prog) w 87 _ _ none Try.underlying87
    have c2a := (Gw.alloc w2 (.map #[] 0)).cell c2
    have f2a := (HM2.out.hd.on (Gw.alloc w2 (.map #[] 0))).free 0
    go_upto_region 9 with fail
    have HV := Lib.hid (mt_born HM2.out)
    have hne0 : Hid (nb ≠ g) := fun e => by have h1 := HB3.out; have h2 := HM2.out.hd; rw [e] at h1; have := Eq.trans (Eq.symm h1) h2; simp at this
    have HN : Hid (Has ((w2.alloc (.map #[] 0)).setCell ⟨g, 0, none⟩ (.map (some w2.heap.size))) nb 98 #[.string (bs q.1), .string (bs q.2)]) := (HB3.out.on (Gw.alloc _ _)).same (set_other hne0.out)
    have HCH : Hid (ChF (mtF g none) W ((w2.alloc (.map #[] 0)).setCell ⟨g, 0, none⟩ (.map (some w2.heap.size)))) := (ChF.trans (g2.out.chf (F := mtF g none)) (ChF.trans (Gw.chf (F := mtF g none) (Gw.alloc w2 (.map #[] 0))) (But.set g _ 0 _).chf (fun j hj => .inl (.inl hj))) (fun j hj => .inl hj))
    have HNB : Hid (W.heap.size ≤ w2.heap.size) := g2.out.size
    generalize hbb : w2.heap.size = b at *
    generalize ((w2.alloc (.map #[] 0)).setCell ⟨g, 0, none⟩ (.map (some b))) = V at *
    have v0 : V.cell? ⟨g, 0, none⟩ = some (.map (some b)) := HV.out.hd.cell 0
    have v1 : V.cell? ⟨g, 1, none⟩ = some (.int .i64 nx) := HV.out.hd.cell 1
    clear c2 c2a f2a hq0 hbb HM2 HB3 g2 HM
    go_upto_region 10 with fail
    have HV2 := Lib.hid (HV.out.on (Gw.alloc V (.cells #[.int .i64 nx, .bool dir] 100)))
    have HN2 := HN.out.on (Gw.alloc V (.cells #[.int .i64 nx, .bool dir] 100))
    have HE2 := Has.new V 100 #[.int .i64 nx, .bool dir]
    have GE2 : Hid (Gw V (V.alloc (.cells #[.int .i64 nx, .bool dir] 100))) := Gw.alloc _ _
    have hsz : Hid ((V.alloc (.cells #[.int .i64 nx, .bool dir] 100)).heap.size = V.heap.size + 1) := size_alloc _ _
    generalize he : V.heap.size = eb at *
    generalize (V.alloc (.cells #[.int .i64 nx, .bool dir] 100)) = V2 at *
    have y0 : V2.cell? ⟨g, 0, none⟩ = some (.map (some b)) := HV2.out.hd.cell 0
    obtain ⟨x0, _⟩ := box0 HN2
    obtain ⟨x1, _⟩ := box1 HN2
    obtain ⟨k0, _⟩ := box0 HE2
    obtain ⟨k1, _⟩ := box1 HE2
    obtain ⟨D, HO, HP⟩ : ∃ D, Hid (V2.ownsMap Try.prog tK eElem b l.length D) ∧ Hid (MpIs D l) := by
      rcases HV2.out.mp with ⟨h1, _⟩ | ⟨b', D, h1, h2, h3⟩
      · cases h1
      · cases h1; exact ⟨D, h2, h3⟩
    have HE3 := Lib.hid HE2
    clear HE2 HN2
    obtain ⟨w3, hupd, own3, turn3⟩ := (show V2.drew.ownsMap Try.prog tK eElem b l.length D from HO.out).store keyedName Try.underlying87 HRM.out (key_of HPK.out) (eElem_mk nx dir)
    go_region_law (fail)
    all_goals (
      have HF := Lib.hid (make_fin (V := V2.drew) (HV2.out.on (Gw.refl _).drew) HOK.out HQ.out HMZ.out.1 HMZ.out.2.1 HP.out own3 turn3)
      have HT := turn3.grown
      have hge : eb ≠ b := by
        have h1 : b < eb := by rw [← he]; exact HV.out.lt (.inr rfl)
        omega
      have e3 : Has w3 eb 100 #[.int .i64 nx, .bool dir] := HE3.out.same (HT.block eb HE3.out.lt (fun e => hge (Option.some.inj e)))
      have gd3 : Has w3 g 89 #[.map (some b), .int .i64 nx] := HV2.out.hd.same (HT.block g HV2.out.hd.lt (fun e => HV2.out.ne (b := b) rfl (Option.some.inj e).symm))
      obtain ⟨z0, _⟩ := box0 e3
      obtain ⟨z1, q1⟩ := box1 gd3
      have hne : Hid (eb ≠ g) := by
        rintro rfl
        have h1 : _ := HV.out.hd.lt
        rw [he] at h1
        exact absurd h1 (Nat.lt_irrefl _)
      have z2 : (w3.setCell ⟨g, 1, none⟩ (.int .i64 (nx + 1))).cell? ⟨eb, 0, none⟩ = some (.int .i64 nx) := (World.cell?_of_block (set_other hne.out)).trans z0
      clear turn3 own3 HT e3 gd3 hge
      go_wp2
      go_ret2
      refine ⟨rfl, ?_⟩
      exact ⟨(HCH.out.trans (GE2.out.chf (F := mtF g none)) (fun j hj => .inl hj)).trans (ChF.trans (Gw.chf (F := fun k => k = g ∨ k = b) (Gw.refl V2).drew) HF.out.2 (fun j hj => .inl hj)) (fun j hj => by rcases hj with rfl | rfl; exact .inl (.inl rfl); exact .inr HNB.out), some b, HF.out.1, fun k hk => by cases hk; exact .inr HNB.out⟩)
    | some b =>
    have hq0 := fun w => run_eql_map_nil_sl (P := Try.prog) w 87 _ _ (some b) Try.underlying87
    have v1 : w2.cell? ⟨g, 1, none⟩ = some (.int .i64 nx) := HM2.out.hd.cell 1
    go_upto_region 9 with fail
    have HV := HM2
    have HN := HB3
    have HCH : Hid (ChF (mtF g (some b)) W w2) := g2.out.chf
    clear hq0 HM2 HB3 g2 HM
    obtain ⟨V, rfl⟩ : ∃ V, V = w2 := ⟨_, rfl⟩
    go_upto_region 10 with fail
    have HV2 := Lib.hid (HV.out.on (Gw.alloc V (.cells #[.int .i64 nx, .bool dir] 100)))
    have HN2 := HN.out.on (Gw.alloc V (.cells #[.int .i64 nx, .bool dir] 100))
    have HE2 := Has.new V 100 #[.int .i64 nx, .bool dir]
    have GE2 : Hid (Gw V (V.alloc (.cells #[.int .i64 nx, .bool dir] 100))) := Gw.alloc _ _
    have hsz : Hid ((V.alloc (.cells #[.int .i64 nx, .bool dir] 100)).heap.size = V.heap.size + 1) := size_alloc _ _
    generalize he : V.heap.size = eb at *
    generalize (V.alloc (.cells #[.int .i64 nx, .bool dir] 100)) = V2 at *
    have y0 : V2.cell? ⟨g, 0, none⟩ = some (.map (some b)) := HV2.out.hd.cell 0
    obtain ⟨x0, _⟩ := box0 HN2
    obtain ⟨x1, _⟩ := box1 HN2
    obtain ⟨k0, _⟩ := box0 HE2
    obtain ⟨k1, _⟩ := box1 HE2
    obtain ⟨D, HO, HP⟩ : ∃ D, Hid (V2.ownsMap Try.prog tK eElem b l.length D) ∧ Hid (MpIs D l) := by
      rcases HV2.out.mp with ⟨h1, _⟩ | ⟨b', D, h1, h2, h3⟩
      · cases h1
      · cases h1; exact ⟨D, h2, h3⟩
    have HE3 := Lib.hid HE2
    clear HE2 HN2
    obtain ⟨w3, hupd, own3, turn3⟩ := (show V2.drew.ownsMap Try.prog tK eElem b l.length D from HO.out).store keyedName Try.underlying87 HRM.out (key_of HPK.out) (eElem_mk nx dir)
    go_region_law (fail)
    all_goals (
      have HF := Lib.hid (make_fin (V := V2.drew) (HV2.out.on (Gw.refl _).drew) HOK.out HQ.out HMZ.out.1 HMZ.out.2.1 HP.out own3 turn3)
      have HT := turn3.grown
      have hge : eb ≠ b := by
        have h1 : b < eb := by rw [← he]; exact HV.out.lt (.inr rfl)
        omega
      have e3 : Has w3 eb 100 #[.int .i64 nx, .bool dir] := HE3.out.same (HT.block eb HE3.out.lt (fun e => hge (Option.some.inj e)))
      have gd3 : Has w3 g 89 #[.map (some b), .int .i64 nx] := HV2.out.hd.same (HT.block g HV2.out.hd.lt (fun e => HV2.out.ne (b := b) rfl (Option.some.inj e).symm))
      obtain ⟨z0, _⟩ := box0 e3
      obtain ⟨z1, q1⟩ := box1 gd3
      have hne : Hid (eb ≠ g) := by
        rintro rfl
        have h1 : _ := HV.out.hd.lt
        rw [he] at h1
        exact absurd h1 (Nat.lt_irrefl _)
      have z2 : (w3.setCell ⟨g, 1, none⟩ (.int .i64 (nx + 1))).cell? ⟨eb, 0, none⟩ = some (.int .i64 nx) := (World.cell?_of_block (set_other hne.out)).trans z0
      clear turn3 own3 HT e3 gd3 hge
      go_wp2
      go_ret2
      refine ⟨rfl, ?_⟩
      exact ⟨(HCH.out.trans (GE2.out.chf (F := mtF g (some b))) (fun j hj => .inl hj)).trans (ChF.trans (Gw.chf (F := fun k => k = g ∨ k = b) (Gw.refl V2).drew) HF.out.2 (fun j hj => .inl hj)) (fun j hj => by rcases hj with rfl | rfl; exact .inl (.inl rfl); exact .inl (.inr rfl)), some b, HF.out.1, fun k hk => by cases hk; exact .inl rfl⟩)
  · have e1 : (r == 0) = false := beq_false_of_ne e0
    rw [if_neg e0]
    go_enter Try.func23, Try.ntmps23
    go_wp2_with (first
      | (go_at_call 53; with_reducible refine (T0 _).mono ?_; rintro e w1 ⟨rfl, G1⟩; have G1a := G1.trans (Gw.alloc w1 (.cells #[.string (bs q.1), .string (bs q.2)] 98)))
      | (go_at_call 54; with_reducible refine (M0 _ G1a).mono ?_; rintro e w2 ⟨rfl, G2⟩))
    go_ret2
    exact ⟨rfl, MkP.of_gw HM.out (G1a.trans G2)⟩
end Go.Proofs.Ytckoapfmfpmdgaa
