/-
  The program's own tree: what a store, a deletion, a new number leave; Find, Many, Len, Copy.
-/
import Derived.Test.YtlnobekjcengfaaTreeTi
import Derived.Test.YtlnobekjcengfaaMapClone
namespace Go.Proofs.Ytlnobekjcengfaa
open Go.ChangeShapes Go.WideShapes Go.ChangeAt Go.RowKit Go.Joins
set_option linter.unusedVariables false
set_option linter.unusedSimpArgs false

theorem ChF.trans {F F' : Nat → Prop} {a b c : World} (h : ChF F a b) (k : ChF F' b c) (hs : ∀ j, F' j → F j ∨ a.heap.size ≤ j) : ChF F a c :=
  ⟨k.os.trans h.os, k.output.trans h.output, Nat.le_trans h.size k.size, fun j hj hn => (k.block j (Nat.lt_of_lt_of_le hj h.size) (fun hf => by
    rcases hs j hf with q | q
    · exact hn q
    · omega)).trans (h.block j hj hn)⟩
theorem Gw.chf {F : Nat → Prop} {a b : World} (h : Gw a b) : ChF F a b := ⟨h.os, h.output, h.size, fun k hk _ => h.block k hk⟩
theorem But.chf {g : Nat} {a b : World} (h : But g a b) : ChF (fun k => k = g) a b := ⟨h.os, h.output, h.size, fun k hk hn => h.block k hk hn⟩
theorem turn_chf {b : Nat} {V V' : World} (h : V.mapTurned V' b) : ChF (fun k => k = b) V V' := by
  have hg := h.grown
  exact ⟨hg.os, hg.output, hg.size, fun k hk hn => hg.block k hk (fun e => hn (by injection e))⟩
theorem own_tight {w : World} {b n : Nat} {D : DataW Unit} {l : List Itm} (h : w.ownsMap Try.prog tK eElem b n D) (hM : MpIs D l) : w.ownsMap Try.prog tK eElem b l.length D := by
  have hs := hM.size
  obtain ⟨es, clock, hb, F, h1, rfl⟩ := h
  refine ⟨es, clock, hb, F, ?_, rfl⟩
  rw [← hs, Maps.size_eq, length_sorted]
  simp
theorem mt_turn {V V' : World} {g b n : Nat} {s : St} {D : DataW Unit} {l : List Itm} (h : MT V g (some b) s) (ht : V.mapTurned V' b) (ho : V'.ownsMap Try.prog tK eElem b n D) (hM : MpIs D l) : MT V' g (some b) ⟨l, s.nx⟩ :=
  ⟨h.hd.same (ht.grown.block g h.hd.lt (fun e => h.ne rfl (by injection e with e; exact e.symm))), .inr ⟨b, D, rfl, own_tight ho hM, hM⟩⟩
theorem mt_next {V : World} {g : Nat} {m : Option Nat} {s : St} (h : MT V g m s) (x : Int) : MT (V.setCell ⟨g, 1, none⟩ (.int .i64 x)) g m ⟨s.l, x⟩ := by
  refine ⟨h.hd.put 1 _, ?_⟩
  rcases h.mp with h1 | ⟨b, D, h1, h2, h3⟩
  · exact .inl h1
  · exact .inr ⟨b, D, h1, mown_same h2 (set_other (h.ne h1)), h3⟩
theorem mt_born {V : World} {g : Nat} {s : St} (h : MT V g none s) : MT ((V.alloc (.map #[] 0)).setCell ⟨g, 0, none⟩ (.map (some V.heap.size))) g (some V.heap.size) s := by
  have hl : s.l = [] := by
    rcases h.mp with ⟨_, h1⟩ | ⟨b, D, h1, _⟩
    · exact h1
    · cases h1
  refine ⟨(h.hd.on (Gw.alloc V _)).put 0 _, .inr ⟨_, .map [], rfl, ?_, by rw [hl]; exact MpIs.start⟩⟩
  have hlt := h.hd.lt
  rw [hl]
  exact mown_same (World.ownsMap_made V _ _ _) (set_other (show V.heap.size ≠ g by omega))
/-- delete in a drawn region. -/
theorem step_delete (w : World) {ops : Array Oper} {o : Oper} {a : Act} {K : Act → World → Prop} {Q : Exit → Act → World → Prop} {E : Prop} (hgd : o.guard = none) (m x : Operand)
    (ho : o.op = .call { callee := .builtin .delete, args := #[m, x], argTypes := #[tMp, tK] }) (b n : Nat) (D : DataW Unit) (hm : a.eval m = .map (some b)) (hown : w.ownsMap Try.prog tK eElem b n D) (p : Pr) (hp : Pk p) (hx : a.eval x = tV p)
    (h : ∀ w', w'.ownsMap Try.prog tK eElem b n (D.del (nkl p)) → w.mapTurned w' b → K (a.put o.dst (.tuple #[])) w') :
    if Region.wanted o (yielded ops a.tmps) = true then Oper.wp Try.prog o a w K Q else E := by
  have hw : Region.wanted o (yielded ops a.tmps) = true := by simp [Region.wanted, hgd]
  rw [if_pos hw]
  obtain ⟨w', hrun, r1, r2⟩ := hown.drop keyedName Try.underlying64 (key_of hp) o.type
  unfold Oper.wp
  simp [execOp, ho, resolve, invoke, builtin, hm, hx, hrun, Result.andThen]
  exact h w' r1 r2
section
variable {W : World} {g : Nat} {m : Option Nat} {s : St}
set_option maxHeartbeats 2000000 in
theorem pfind_any (h : MT W g m s) (ok : Ok s.l) (p : ByteArray) (hp : p.size ≤ 140737488351232) : Calls Try.prog 20 #[.pointer (some ⟨g, 0, none⟩), .string p] W fun e W' => e = .returned (fV (findT s.l p.data.toList)) ∧ Gw W W' := by
  have T0 := fun w => tof_any p w hp
  have F0 : ∀ w, Gw W w → Calls Try.prog 34 #[.pointer (some ⟨g, 0, none⟩), tV (spl p.data.toList)] w fun e W' => e = .returned (fnV (findT s.l p.data.toList)) ∧ Gw w W' := fun w G => by
    rw [← fn_path ok]
    exact tfind_any (h.on G) ok _ (pk_spl _)
  clear h ok
  generalize findT s.l p.data.toList = f at F0 ⊢
  obtain ⟨n, d, no⟩ := f
  go_enter Try.func20, Try.ntmps20
  go_upto_region 4 with (first
    | (go_at_call 30; with_reducible refine (T0 _).mono ?_; rintro e w1 ⟨rfl, G1⟩)
    | (go_at_call 34; with_reducible refine (F0 _ G1).mono ?_; rintro e w2 ⟨rfl, G2⟩))
  have g2 := (G1.trans G2).trans (Gw.alloc w2 (.cells #[.int .i64 n, .bool d] 77))
  go_region
  go_wp2
  go_ret3
  exact ⟨rfl, g2.drew⟩
set_option maxHeartbeats 2000000 in
theorem pmany_any (h : MT W g m s) (ok : Ok s.l) (hl8 : s.l.length ≤ 8) (p : ByteArray) (hp : p.size ≤ 140737488351232) : Calls Try.prog 19 #[.pointer (some ⟨g, 0, none⟩), .string p] W fun e W' => e = .returned (.int .u16 (manyT s.l p.data.toList)) ∧ Gw W W' := by
  have hn : ∀ b w, (Op.unary .not (.bool b)).run Try.prog w = .ok (.bool (!b)) w := fun _ _ => rfl
  have T0 := fun w => tof_any p w hp
  have F0 : ∀ w, Gw W w → Calls Try.prog 34 #[.pointer (some ⟨g, 0, none⟩), .agg #[.string (bs (spl p.data.toList).1), .string (bs (spl p.data.toList).2)]] w fun e W' => e = .returned (fnV (findT s.l p.data.toList)) ∧ Gw w W' := fun w G => by
    rw [← fn_path ok]
    exact tfind_any (h.on G) ok _ (pk_spl _)
  have M0 : Hid ((findT s.l p.data.toList).2.2 = 0 → ∀ w, Gw W w → Calls Try.prog 35 #[.pointer (some ⟨g, 0, none⟩), .agg #[.string (bs (spl p.data.toList).1), .string (bs (spl p.data.toList).2)]] w fun e W' => e = .returned (.int .i64 (manyL s.l p.data.toList)) ∧ Gw w W') := fun hz w G => by
    rw [← mn_path ok (find_zero hz).1]
    exact tmany_any (h.on G) ok hl8 (fnI_ne (by rw [fn_path ok]; exact hz)) _ (pk_spl _)
  have hml : manyL s.l p.data.toList ≤ 8 := Nat.le_trans (List.length_filter_le _ _) hl8
  unfold manyT
  clear h ok hl8
  generalize findT s.l p.data.toList = f at F0 M0 ⊢
  generalize manyL s.l p.data.toList = mc at M0 hml ⊢
  generalize spl p.data.toList = q at T0 F0 M0
  obtain ⟨n, d, no⟩ := f
  simp only at M0 ⊢
  have hw : IntKind.u16.wrap (mc : Int) = mc := by
    simp only [IntKind.wrap, IntKind.bits, IntKind.signed]
    simp
    omega
  by_cases e0 : no = 0
  · have M1 := M0.out e0
    subst e0
    clear M0
    rw [if_pos rfl]
    go_enter Try.func19, Try.ntmps19
    go_upto_region 5 with (first
      | (go_at_call 30; with_reducible refine (T0 _).mono ?_; rintro e w1 ⟨rfl, G1⟩; have G1a := G1.trans (Gw.alloc w1 (.cells #[.string (bs q.1), .string (bs q.2)] 75)); have HB := Has.new w1 75 #[.string (bs q.1), .string (bs q.2)])
      | (go_at_call 34; with_reducible refine (F0 _ G1a).mono ?_; rintro e w2 ⟨rfl, G2⟩))
    have g2 := (G1a.trans G2).trans (Gw.alloc w2 (.cells #[.int .i64 n, .bool d] 77))
    have HB3 := (HB.on G2).on (Gw.alloc w2 (.cells #[.int .i64 n, .bool d] 77))
    obtain ⟨x0, _⟩ := box0 HB3
    obtain ⟨x1, _⟩ := box1 HB3
    clear F0 T0
    cases d with
    | true =>
      go_wp2_with (go_at_call 35; with_reducible refine (M1 _ g2).mono ?_; rintro e w3 ⟨rfl, G3⟩)
      go_ret
      exact ⟨rfl, g2.trans G3⟩
    | false =>
      go_wp2
      go_ret
      exact ⟨rfl, g2⟩
  · rw [if_neg e0]
    have e1 : (no == 0) = false := beq_false_of_ne e0
    clear M0
    go_enter Try.func19, Try.ntmps19
    go_wp2_with (first
      | (go_at_call 30; with_reducible refine (T0 _).mono ?_; rintro e w1 ⟨rfl, G1⟩; have G1a := G1.trans (Gw.alloc w1 (.cells #[.string (bs q.1), .string (bs q.2)] 75)))
      | (go_at_call 34; with_reducible refine (F0 _ G1a).mono ?_; rintro e w2 ⟨rfl, G2⟩))
    go_ret
    exact ⟨rfl, (G1a.trans G2).trans (Gw.alloc _ _)⟩
theorem plen_any (h : MT W g m s) : Calls Try.prog 13 #[.pointer (some ⟨g, 0, none⟩)] W fun e W' => e = .returned (.int .i64 s.l.length) ∧ Gw W W' := by
  have c0 := h.hd.cell 0
  have c0 : W.cell? ⟨g, 0, none⟩ = some (.map m) := c0
  have ln := h.len
  clear h
  generalize s.l.length = n at ln ⊢
  go_enter Try.func13, Try.ntmps13
  go_wp2
  go_ret
  exact ⟨rfl, Gw.refl _⟩
end
end Go.Proofs.Ytlnobekjcengfaa
