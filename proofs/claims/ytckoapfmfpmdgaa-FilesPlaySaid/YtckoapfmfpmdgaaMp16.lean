/-
  Parts of the proof, joined: FzE, FzF, FzG, FzH.
-/
import Derived.Test.YtckoapfmfpmdgaaMp15
import Derived.Maps.AppendAt
import Derived.Lib.SliceRun
import Derived.Lib.Walk

namespace Go.Proofs.Ytckoapfmfpmdgaa
open Go.ChangeShapes Go.WideShapes Go.ChangeAt Go.RowKit Go.Joins
set_option linter.unusedVariables false
set_option linter.unusedSimpArgs false

/-- What forget does. -/
def FgP (c : Cs) (n : Nat) (c' : Cs) : Prop := c' = c ∨ (c' = { c with f := setM c.f n none } ∧ (∀ i x, c.o i = some x → x.1 ≠ n) ∧ ∃ x, c.f n = some x ∧ x.out = true)
theorem fil8 {x : Fil} (h : x.b.length = 8) : ∃ b0 b1 b2 b3 b4 b5 b6 b7, x.b = [b0, b1, b2, b3, b4, b5, b6, b7] := by
  obtain ⟨b, n, o⟩ := x
  match b, h with
  | [b0, b1, b2, b3, b4, b5, b6, b7], _ => exact ⟨b0, b1, b2, b3, b4, b5, b6, b7, rfl⟩
theorem run_fout (x0 x1 x2 x3 x4 x5 x6 x7 x8 : Value) (o : Bool) (w : World) : (Instr.field 114 (.agg #[x0, x1, x2, x3, x4, x5, x6, x7, x8, .bool o]) 2).run Try.prog w = .ok (.bool o) w := by kernel_rfl
/-- delete in a walk. -/
theorem wp_delete_num {w : World} {ops : Array Oper} {rest : List Oper} {o : Oper} {a : Act} {Q : Exit → Act → World → Prop} (hgd : o.guard = none) (m x : Operand) (mt t : TypeId)
    (ho : o.op = .call { callee := .builtin .delete, args := #[m, x], argTypes := #[mt, t] }) (q : IntKind) (e : TypeId) (ht : Try.prog.underlying t = some (.int q)) (hmt : Try.prog.underlying mt = some (.map t e)) (b : Nat) (f : Nat → Option Value) (hm : a.eval m = .map (some b)) (hn : NM w t q b f) (k : Nat) (hw : (Lit.int q (k : Int)).wf = true) (hx : a.eval x = .int q (k : Int))
    (h : ∀ w', NM w' t q b (setM f k none) → w.mapTurned w' b → wpList Try.prog ops Q rest (a.put o.dst (.tuple #[])) w') : wpList Try.prog ops Q (o :: rest) a w := by
  refine wpList_plain hgd fun K' hK' => ?_
  obtain ⟨w', hrun, r1, r2⟩ := hn.drop ht hmt hw o.type
  unfold Oper.wp
  simp [execOp, ho, resolve, invoke, builtin, hm, hx, hrun, Result.andThen]
  exact hK' _ _ (h w' r1 r2)
section
variable {T : TP} {W : World} {F0 Ft : Nat → Prop} {w : World} {g : Nat} {a : Addr} {fb ob db : Nat} {c : Cs}
set_option maxRecDepth 100000 in
set_option maxHeartbeats 2000000 in
theorem zforget_any (C : TreeC T) (h : Fi T W F0 Ft w g a fb ob db c) {n : Nat} (hn : n ≤ 9223372036854775807) : Calls Try.prog 79 #[.pointer (some ⟨g, 0, none⟩), .int .i64 (n : Int)] w fun e w' => e = .returned (.tuple #[]) ∧ ∃ c', Fi T W F0 Ft w' g a fb ob db c' ∧ FgP c n c' := by
  obtain ⟨nn, D, ho, hM⟩ := h.om
  have c2 : w.cell? ⟨g, 2, none⟩ = some (.map (some ob)) := h.hd.cell 2
  have FO := run_fout
  have HH := Lib.hid h
  have HM := Lib.hid hM
  have HN := Lib.hid hn
  clear h hM hn
  go_enter Try.func79, Try.ntmps79
  go_wp2_with (first
    | (at_range; refine wpList_range_own _ rfl _ tMO rfl tI 124 (Maps.int_keyed uI) Try.underlying108 idR ob nn D rfl ho ?_; intro w0 hrg0 hg0 hs0)
    | go_in)
  go_frame
  have HG0 : Hid (Gw w w0) := (Gw.refl _).grown hg0 (fun k hk => by cases hk)
  have HR0 := Lib.hid hrg0
  clear hg0 hs0 c2 hrg0 ho
  go_loopw [] (fun wr => ∃ (left : Lit → Bool) (cnt : Nat), Hid (wr.ranges Try.prog tI idR ob w.heap.size nn D left cnt) ∧ Hid (∀ k : Nat, Maps.has D (.int .i64 (k : Int)) = true → left (.int .i64 (k : Int)) = false → ∀ x, c.o k = some x → x.1 ≠ n) ∧ Hid (Gw w wr)) (fun wr => wr.rangeLeft ob w.heap.size)
  case atStart => exact ⟨_, _, HR0.out, fun k h1 h2 => (by rw [h1] at h2; cases h2), HG0.out⟩
  case round =>
    obtain ⟨left, cnt, HR, HS, HG⟩ := hrel
    go_wp2_with (first
      | (at_next; refine wpList_next_num _ rfl _ rfl tI .i64 uI ob w.heap.size _ D left cnt _ HM.out rfl HR.out ?_ ?_)
      | go_in)
    · intro hl0
      have HX : Hid (∀ i x, c.o i = some x → x.1 ≠ n) := fun i x hi => HS.out i ((HM.out.at_ i (opnV x) (by simp [hi])).1) (hl0 _) x hi
      clear hl0
      have h1 := HH.out.on C HG.out
      have c1 : wr.cell? ⟨g, 1, none⟩ = some (.map (some fb)) := h1.hd.cell 1
      have L := h1.lookf HN.out
      have HF := Lib.hid h1
      clear h1
      cases hx : c.f n with
      | none =>
        rw [hx] at L
        replace L : _ = Result.ok (Value.agg #[.int .u8 0, .int .u8 0, .int .u8 0, .int .u8 0, .int .u8 0, .int .u8 0, .int .u8 0, .int .u8 0, .int .i64 0, .bool false]) wr := L
        clear hx
        go_wp2
        go_end0
        exact ⟨rfl, c, HF.out, .inl rfl⟩
      | some x =>
        rw [hx] at L
        have HX2 := Lib.hid hx
        obtain ⟨b0, b1, b2, b3, b4, b5, b6, b7, hb⟩ := fil8 (HF.out.l8 n x hx)
        obtain ⟨xb, xn, xo⟩ := x
        simp only at hb
        subst hb
        replace L : _ = Result.ok (Value.agg #[ubV b0, ubV b1, ubV b2, ubV b3, ubV b4, ubV b5, ubV b6, ubV b7, .int .i64 (xn : Int), .bool xo]) wr := L
        clear hx
        cases xo with
        | false =>
          go_wp2
          go_end0
          exact ⟨rfl, c, HF.out, .inl rfl⟩
        | true =>
          go_wp2_with (at_delete; refine wp_delete_num rfl _ _ tMF tI rfl .i64 _ uI Try.underlying107 fb _ rfl HF.out.fm n (wfI HN.out) rfl ?_; intro w2 hn2 ht2)
          go_end0
          exact ⟨rfl, _, HF.out.turnf C ht2 (x := none) (fun y hy => by cases hy) hn2, .inr ⟨rfl, HX.out, _, HX2.out, rfl⟩⟩
    · intro i v w1 cnt1 x1 x2 hx hv hlk hrg1 hlt hg1 hs1 hen
      subst hv
      have HI := Lib.hid hx
      have HLK := Lib.hid hlk
      have HR1 := Lib.hid hrg1
      have HLT := Lib.hid hlt
      have HG1 : Hid (Gw w w1) := HG.out.grown hg1 (fun k hk => by cases hk; exact Nat.le_refl _)
      clear hx hlk hrg1 hlt hg1 hs1
      by_cases he : x1 = n
      · subst he
        have G2 := Gw.alloc w1 (.cells #[.int .i64 (x1 : Int), .int .i64 (x2 : Int)] 124)
        go_wp2
        refine bodyPost_ret (results_none rfl _ _ _) rfl ?_
        exact ⟨rfl, c, HH.out.on C (HG1.out.trans G2), .inl rfl⟩
      · have he2 : ((x1 : Int) == (n : Int)) = false := beq_false_of_ne (by omega)
        have HE := Lib.hid he
        have HG2 : Hid (Gw w1 (w1.alloc (.cells #[.int .i64 (x1 : Int), .int .i64 (x2 : Int)] 124))) := Gw.alloc _ _
        have HR2 := Lib.hid (nranges_on HR1.out HG2.out)
        clear he
        go_wp2
        go_roundw
        case rel =>
          refine ⟨_, _, HR2.out, fun k hk hl y hy => ?_, HG1.out.trans HG2.out⟩
          cases hl' : left (.int .i64 (k : Int)) with
          | false => exact HS.out k hk hl' y hy
          | true =>
            rw [hl'] at hl
            simp at hl
            obtain rfl := lit_inj (WideAt.sameKey_eq hl)
            rw [HI.out] at hy
            cases hy
            exact HE.out
        case measure =>
          show _ < _
          rw [HR2.out.left_eq, HR.out.left_eq]; exact HLT.out
theorem box10 {w : World} {g : Nat} {t : TypeId} {x0 x1 x2 x3 x4 x5 x6 x7 x8 x9 : Value} (h : Has w g t #[x0, x1, x2, x3, x4, x5, x6, x7, x8, x9]) :
    w.cell? ⟨g, 0, none⟩ = some x0 ∧ w.cell? ⟨g, 1, none⟩ = some x1 ∧ w.cell? ⟨g, 2, none⟩ = some x2 ∧ w.cell? ⟨g, 3, none⟩ = some x3 ∧ w.cell? ⟨g, 4, none⟩ = some x4 ∧ w.cell? ⟨g, 5, none⟩ = some x5 ∧ w.cell? ⟨g, 6, none⟩ = some x6 ∧ w.cell? ⟨g, 7, none⟩ = some x7 ∧ w.cell? ⟨g, 8, none⟩ = some x8 ∧ w.cell? ⟨g, 9, none⟩ = some x9 :=
  ⟨h.cell 0, h.cell 1, h.cell 2, h.cell 3, h.cell 4, h.cell 5, h.cell 6, h.cell 7, h.cell 8, h.cell 9⟩
/-- Those that have a number lie below a bound. -/
structure Bnd (c : Cs) : Prop where
  f : ∀ n x, c.f n = some x → n < 1000001
  o : ∀ n x, c.o n = some x → n < 1000001
  d : ∀ n x, c.d n = some x → n < 4
theorem maxLen_is : maxLen = 9223372036854775807 := rfl
theorem Fi.storef (h : Fi T W F0 Ft w g a fb ob db c) (hb : Bnd c) {k : Nat} (hk : k < 1000001) (x : Fil) :
    ∃ w', (Instr.mapUpdate tMF (.map (some fb)) (.int .i64 (k : Int)) (filV x)).run Try.prog w = .ok () w' ∧ NM w' tI .i64 fb (setM (fun n => (c.f n).map filV) k ((some x).map filV)) ∧ w.mapTurned w' fb :=
  h.fm.store uI Try.underlying107 (M := 1000001) (fun n hn => by
    cases e : c.f n with
    | none => rw [e] at hn; cases hn
    | some y => exact hb.f n y e) (by rw [maxLen_is]; decide) (wfI (by omega)) (filV x)
theorem Fi.storeo (h : Fi T W F0 Ft w g a fb ob db c) (hb : Bnd c) {k : Nat} (hk : k < 1000001) (x : Nat × Nat) :
    ∃ w', (Instr.mapUpdate tMO (.map (some ob)) (.int .i64 (k : Int)) (opnV x)).run Try.prog w = .ok () w' ∧ NM w' tI .i64 ob (setM (fun n => (c.o n).map opnV) k ((some x).map opnV)) ∧ w.mapTurned w' ob :=
  h.om.store uI Try.underlying108 (M := 1000001) (fun n hn => by
    cases e : c.o n with
    | none => rw [e] at hn; cases hn
    | some y => exact hb.o n y e) (by rw [maxLen_is]; decide) (wfI (by omega)) (opnV x)
theorem Fi.stored (h : Fi T W F0 Ft w g a fb ob db c) (hb : Bnd c) {k : Nat} (hk : k < 4) (x : Nat) :
    ∃ w', (Instr.mapUpdate tMD (.map (some db)) (.int .u16 (k : Int)) (numV x)).run Try.prog w = .ok () w' ∧ NM w' tU .u16 db (setM (fun n => (c.d n).map numV) k ((some x).map numV)) ∧ w.mapTurned w' db :=
  h.dm.store uU Try.underlying109 (M := 4) (fun n hn => by
    cases e : c.d n with
    | none => rw [e] at hn; cases hn
    | some y => exact hb.d n y e) (by rw [maxLen_is]; decide) (wfU (by omega)) (numV x)
set_option maxRecDepth 100000 in
set_option maxHeartbeats 2000000 in
/-- leave, of a file that there is. -/
theorem zleave_any (C : TreeC T) (h : Fi T W F0 Ft w g a fb ob db c) (hb : Bnd c) {n : Nat} {x : Fil} (hx : c.f n = some x) : Calls Try.prog 78 #[.pointer (some ⟨g, 0, none⟩), .int .i64 (n : Int)] w fun e w' => e = .returned (.tuple #[]) ∧ ∃ c', Fi T W F0 Ft w' g a fb ob db c' ∧ FgP { c with f := setM c.f n (some { x with out := true }) } n c' := by
  have hn : n < 1000001 := hb.f n x hx
  have c1 : w.cell? ⟨g, 1, none⟩ = some (.map (some fb)) := h.hd.cell 1
  have L := h.lookf (k := n) (by omega)
  rw [hx] at L
  have h8 := h.l8 n x hx
  obtain ⟨b0, b1, b2, b3, b4, b5, b6, b7, he⟩ := fil8 h8
  obtain ⟨xb, xn, xo⟩ := x
  simp only at he
  subst he
  replace L : _ = Result.ok (Value.agg #[ubV b0, ubV b1, ubV b2, ubV b3, ubV b4, ubV b5, ubV b6, ubV b7, .int .i64 (xn : Int), .bool xo]) w := L
  have HH := Lib.hid h
  have HBX := Lib.hid (h.box C)
  have HB := Lib.hid hb
  have HN := Lib.hid hn
  have HX := Lib.hid hx
  have HSZ := Lib.hid h.ch.size
  clear h hb hn hx h8
  go_enter Try.func78, Try.ntmps78
  go_upto_region 2 with fail
  have G1 : Hid (Gw w (w.alloc (.cells #[ubV b0, ubV b1, ubV b2, ubV b3, ubV b4, ubV b5, ubV b6, ubV b7, .int .i64 (xn : Int), .bool true] 114))) := Gw.alloc _ _
  have HV := Has.new w 114 #[ubV b0, ubV b1, ubV b2, ubV b3, ubV b4, ubV b5, ubV b6, ubV b7, .int .i64 (xn : Int), .bool true]
  clear c1 L
  generalize w.heap.size = xp at *
  generalize (w.alloc (.cells #[ubV b0, ubV b1, ubV b2, ubV b3, ubV b4, ubV b5, ubV b6, ubV b7, .int .i64 (xn : Int), .bool true] 114)) = V at *
  have HF := Lib.hid (HH.out.on C G1.out)
  have c1 : V.cell? ⟨g, 1, none⟩ = some (.map (some fb)) := HF.out.hd.cell 1
  obtain ⟨e0, e1, e2, e3, e4, e5, e6, e7, e8, e9⟩ := box10 HV
  obtain ⟨w2, hup, hn2, ht2⟩ := (HF.out.drew C).storef HB.out HN.out ⟨[b0, b1, b2, b3, b4, b5, b6, b7], xn, true⟩
  replace hup : (Instr.mapUpdate tMF (.map (some fb)) (.int .i64 (n : Int)) (.agg #[ubV b0, ubV b1, ubV b2, ubV b3, ubV b4, ubV b5, ubV b6, ubV b7, .int .i64 (xn : Int), .bool true])).run Try.prog V.drew = .ok () w2 := hup
  have HF2 := Lib.hid ((HF.out.drew C).turnf C ht2 (x := some ⟨[b0, b1, b2, b3, b4, b5, b6, b7], xn, true⟩) (fun y hy => by cases hy; rfl) hn2)
  clear ht2 hn2
  go_region_law (fail)
  all_goals (
    have FG := zforget_any C HF2.out (n := n) (by have := HN.out; omega)
    go_wp2_with (go_at_call 79; with_reducible refine FG.mono ?_; rintro e w3 ⟨rfl, HP⟩; replace HP := Lib.hid HP)
    go_end0
    exact ⟨rfl, HP.out⟩)
end
end Go.Proofs.Ytckoapfmfpmdgaa

namespace Go.Proofs.Ytckoapfmfpmdgaa
open Go.ChangeShapes Go.WideShapes Go.ChangeAt Go.RowKit Go.Joins
set_option linter.unusedVariables false
set_option linter.unusedSimpArgs false

/-- Bytes in new memory. -/
def NewB (base : Nat) (w : World) (x : Value) (l : List UInt8) : Prop := ∃ A cap, x = .slice A l.length cap ∧ l.length ≤ cap ∧ cap ≤ 9223372036854775807 ∧
  ∀ (j : Nat) c, l[j]? = some c → ∃ b off, A = some ⟨b, off, none⟩ ∧ base ≤ b ∧ w.cell? ⟨b, off + j, none⟩ = some (ubV c)
set_option maxRecDepth 100000 in
theorem info_ub : ∃ i0, Try.prog.info? 5 = some i0 ∧ i0.zero = some (.int .u8 0) ∧ i0.size = 1 ∧ i0.bytes = 1 := ⟨_, rfl, rfl, rfl, rfl⟩
theorem newb_row {w : World} {base : Nat} {v : Value} {l : List UInt8} (h : w.ownsRow base 5 1 v l.length (l.map ubV)) : NewB base w v l := by
  rcases h.2 with ⟨h0, h1⟩ | ⟨g, cap, cur, h0, h1, h2, h3, h4, h5, h6⟩
  · have : l = [] := List.eq_nil_of_length_eq_zero h1
    subst this
    rw [h0]; exact ⟨none, 0, rfl, Nat.le_refl _, by decide, fun j c hj => by simp at hj⟩
  · refine ⟨_, cap, h0, h3, h4, fun j c hj => ⟨g, 0, rfl, h1, ?_⟩⟩
    have hk := (List.getElem?_eq_some_iff.1 hj).1
    have := h.cells (g := g) (by rw [h0]; rfl) j (ubV c) (by rw [List.getElem?_map, hj]; rfl)
    rw [add_eq] at this
    exact this
set_option maxRecDepth 100000 in
theorem zclone_any (w : World) {b off cap : Nat} {l : List UInt8} (h8 : l.length ≤ 8) (hc : ∀ (j : Nat) x, l[j]? = some x → w.cell? ⟨b, off + j, none⟩ = some (ubV x)) :
    Calls Try.prog 77 #[.slice (some ⟨b, off, none⟩) l.length cap] w fun e w' => ∃ x, e = .returned x ∧ Gw w w' ∧ NewB w.heap.size w' x l := by
  obtain ⟨i0, hi, hz0, hz1, hz2⟩ := info_ub
  have q22 : ∀ (w : World) (a : Option Addr) (n c n' c' : Nat), (binOp .eql 52 (.slice a n c) (.slice none n' c')).run Try.prog w = .ok (.bool a.isNone) w := fun w a n c n' c' => Lib.run_eql_slice_nil w _ _ a n c n' c' Try.underlying52
  have HC := Lib.hid hc
  have H8 := Lib.hid h8
  have HN : Hid (∀ (j : Nat) (u : Value), (l.map ubV)[j]? = some u → (w.alloc (.cells #[] 5)).cell? ((⟨b, off, none⟩ : Addr).add j) = some u) := fun j u hj => by
    rw [List.getElem?_map] at hj
    cases e : l[j]? with
    | none => rw [e] at hj; cases hj
    | some x =>
      rw [e] at hj
      cases hj
      rw [add_eq]
      exact (Gw.alloc w _).cell (hc j x e)
  have HL : Hid ((l.map ubV).length = l.length * 1) := by show _ = _; simp
  have HO : Hid (∀ u ∈ l.map ubV, u.oneCell' = true) := fun u hu => by obtain ⟨x, _, rfl⟩ := List.mem_map.1 hu; rfl
  clear hc h8
  go_enter Try.func77, Try.ntmps77
  go_wp2_with (at_builtin; refine wpList_append_own_at _ rfl _ _ 52 rfl w.heap.size 5 i0 (.int .u8 0) 1 1 Try.underlying52 hi hz0 hz1 hz2 rfl (by decide) _ _ _ rfl (World.ownsRow_made w #[] 0 (Nat.le_refl _) (Nat.zero_le _) rfl) ⟨b, off, none⟩ l.length cap (l.map ubV) rfl HL.out HN.out HO.out (by have := H8.out; rw [maxLen_is]; omega) (by have := H8.out; omega) (Gw.alloc w _).size ?_)
  intro v' w1 hown hgrow hnil hblk
  have HOW := Lib.hid hown
  have HG : Hid (Gw w w1) := (Gw.alloc w (.cells #[] 5)).grown hgrow (fun k hk => by simp [Value.ownBlock] at hk; omega)
  clear hown hgrow hnil hblk
  go_wp2
  go_ret
  refine ⟨v', rfl, HG.out, newb_row HOW.out⟩
end Go.Proofs.Ytckoapfmfpmdgaa

namespace Go.Proofs.Ytckoapfmfpmdgaa
open Go.ChangeShapes Go.WideShapes Go.ChangeAt Go.RowKit Go.Joins
set_option linter.unusedVariables false
set_option linter.unusedSimpArgs false

/-- What mayReach answers. -/
def mrF (t : St) (p : List UInt8) : Int := if (findT t.l p).2.1 = true then 65301 else if (findT t.l p).2.2 ≠ 65282 then (findT t.l p).2.2 else if (makeT t p false).1.2 = 65308 then 0 else (makeT t p false).1.2
structure TOk (t : St) : Prop where
  ok : Ok t.l
  n8 : t.l.length ≤ 8
  n0 : 0 ≤ t.nx
  n1 : t.nx ≤ 1000001
section
variable {T : TP} {W : World} {F0 Ft : Nat → Prop} {w w' : World} {g : Nat} {a : Addr} {fb ob db : Nat} {c : Cs}
/-- What is not its own has changed. -/
theorem Fi.aside (C : TreeC T) (h : Fi T W F0 Ft w g a fb ob db c) {F' : Nat → Prop} (hc : ChF F' w w') (hs : ∀ k, F' k → ¬ fF g fb ob db Ft k ∧ W.heap.size ≤ k) : Fi T W F0 Ft w' g a fb ob db c :=
  h.same C (fun k hk => hc.block k (h.lt C hk) (fun hf => (hs k hf).1 hk)) (chf_trans h.ch hc (fun j hj => .inr (hs j hj).2))
theorem zfind_t (C : TreeC T) (h : Fi T W F0 Ft w g a fb ob db c) (t : TOk c.t) (p : ByteArray) (hp : p.size ≤ 140737488351232) : Calls Try.prog 27 #[.pointer (some a), .string p] w fun e w' => e = .returned (.tuple #[.int .i64 (findT c.t.l p.data.toList).1, .bool (findT c.t.l p.data.toList).2.1, .int .u16 (findT c.t.l p.data.toList).2.2]) ∧ ∃ Ft', Fi T W F0 Ft' w' g a fb ob db c :=
  (C.find p h.tr t.ok t.n8 hp).mono fun e w' ⟨he, k⟩ => ⟨he, h.tree C k⟩
theorem zmake_t (C : TreeC T) (h : Fi T W F0 Ft w g a fb ob db c) (t : TOk c.t) (p : ByteArray) (hp : p.size ≤ 140737488351232) (d : Bool) : Calls Try.prog 23 #[.pointer (some a), .string p, .bool d] w fun e w' => e = .returned (.tuple #[.int .i64 (makeT c.t p.data.toList d).1.1, .int .u16 (makeT c.t p.data.toList d).1.2]) ∧ ∃ Ft', Fi T W F0 Ft' w' g a fb ob db { c with t := (makeT c.t p.data.toList d).2 } :=
  (C.make p d h.tr t.ok t.n8 hp t.n0 (by have := t.n1; omega)).mono fun e w' ⟨he, k⟩ => ⟨he, h.tree C k⟩
/-- Make, of a copy. -/
theorem zcopy_t (C : TreeC T) (h : Fi T W F0 Ft w g a fb ob db c) (t : TOk c.t) : Calls Try.prog 22 #[.pointer (some a)] w fun e w' => ∃ a', e = .returned (.pointer (some a')) ∧ ∀ (p : ByteArray), p.size ≤ 140737488351232 → Calls Try.prog 23 #[.pointer (some a'), .string p, .bool false] w' fun e w'' => e = .returned (.tuple #[.int .i64 (makeT c.t p.data.toList false).1.1, .int .u16 (makeT c.t p.data.toList false).1.2]) ∧ ∃ Ft', Fi T W F0 Ft' w'' g a fb ob db c :=
  (C.copy h.tr t.ok t.n8).mono fun e w' ⟨a', F', he, G, h1, h2⟩ => ⟨a', he, fun p hp => (C.make p false h1 t.ok t.n8 hp t.n0 (by have := t.n1; omega)).mono fun e w'' ⟨he', k⟩ => ⟨he', Ft, (h.on C G).aside C k.ch fun j hj => ⟨fun hf => by
    have h3 := h.lt C hf
    have h4 := h2 j hj
    omega, Nat.le_trans h.ch.size (h2 j hj)⟩⟩⟩
set_option maxRecDepth 100000 in
set_option maxHeartbeats 2000000 in
theorem zmay_any (C : TreeC T) (h : Fi T W F0 Ft w g a fb ob db c) (t : TOk c.t) (p : ByteArray) (hp : p.size ≤ 140737488351232) : Calls Try.prog 73 #[.pointer (some ⟨g, 0, none⟩), .string p] w fun e w' => e = .returned (.int .u16 (mrF c.t p.data.toList)) ∧ ∃ Ft', Fi T W F0 Ft' w' g a fb ob db c := by
  have c0 : w.cell? ⟨g, 0, none⟩ = some (.pointer (some a)) := h.hd.cell 0
  have FD := zfind_t C h t p hp
  have CP : Hid (∀ w1 Ft1, Fi T W F0 Ft1 w1 g a fb ob db c → Calls Try.prog 22 #[.pointer (some a)] w1 fun e w' => ∃ a', e = .returned (.pointer (some a')) ∧ ∀ (p : ByteArray), p.size ≤ 140737488351232 → Calls Try.prog 23 #[.pointer (some a'), .string p, .bool false] w' fun e w'' => e = .returned (.tuple #[.int .i64 (makeT c.t p.data.toList false).1.1, .int .u16 (makeT c.t p.data.toList false).1.2]) ∧ ∃ Ft', Fi T W F0 Ft' w'' g a fb ob db c) := fun w1 Ft1 h1 => zcopy_t C h1 t
  have HP := Lib.hid hp
  clear h t hp
  unfold mrF
  generalize hfd : findT c.t.l p.data.toList = r at *
  obtain ⟨fn, fd, fno⟩ := r
  generalize hmk : (makeT c.t p.data.toList false).1 = q at *
  clear hfd
  obtain ⟨mn, mno⟩ := q
  have HMK := Lib.hid hmk
  clear hmk
  by_cases e1 : fd = true
  · subst e1
    go_enter Try.func73, Try.ntmps73
    go_wp2_with (go_at_call 27; (with_reducible refine FD.mono ?_); rintro e w1 ⟨rfl, H1⟩; replace H1 := Lib.hid H1)
    go_ret
    exact ⟨rfl, H1.out⟩
  · obtain rfl : fd = false := by simpa using e1
    by_cases e2 : fno = 65282
    · subst e2
      have HD : Hid (∀ x : Int, (if x = 65308 then (0 : Int) else x) = if x = 65308 then 0 else x) := fun x => rfl
      by_cases e3 : mno = 65308
      · subst e3
        go_enter Try.func73, Try.ntmps73
        go_wp2_with (first
          | (go_at_call 27; (with_reducible refine FD.mono ?_); rintro e w1 ⟨rfl, H1⟩; obtain ⟨Ft1, H1⟩ := H1; have c1 : w1.cell? ⟨g, 0, none⟩ = some (.pointer (some a)) := H1.hd.cell 0; have CC := CP.out w1 Ft1 H1; clear H1)
          | (go_at_call 22; (with_reducible refine CC.mono ?_); rintro e w2 ⟨a', rfl, MK⟩; have MK2 := MK p HP.out; clear MK; simp only [HMK.out] at MK2)
          | (go_at_call 23; (with_reducible refine MK2.mono ?_); rintro e w3 ⟨rfl, H3⟩; replace H3 := Lib.hid H3))
        go_ret
        exact ⟨rfl, H3.out⟩
      · have e4 : (mno == 65308) = false := beq_false_of_ne e3
        go_enter Try.func73, Try.ntmps73
        go_wp2_with (first
          | (go_at_call 27; (with_reducible refine FD.mono ?_); rintro e w1 ⟨rfl, H1⟩; obtain ⟨Ft1, H1⟩ := H1; have c1 : w1.cell? ⟨g, 0, none⟩ = some (.pointer (some a)) := H1.hd.cell 0; have CC := CP.out w1 Ft1 H1; clear H1)
          | (go_at_call 22; (with_reducible refine CC.mono ?_); rintro e w2 ⟨a', rfl, MK⟩; have MK2 := MK p HP.out; clear MK; simp only [HMK.out] at MK2)
          | (go_at_call 23; (with_reducible refine MK2.mono ?_); rintro e w3 ⟨rfl, H3⟩; replace H3 := Lib.hid H3))
        go_ret
        exact ⟨by simp [e3], H3.out⟩
    · have e3 : (fno == 65282) = false := beq_false_of_ne e2
      have HE := Lib.hid e2
      clear e2
      go_enter Try.func73, Try.ntmps73
      go_wp2_with (go_at_call 27; (with_reducible refine FD.mono ?_); rintro e w1 ⟨rfl, H1⟩; replace H1 := Lib.hid H1)
      go_ret
      exact ⟨by simp [HE.out], H1.out⟩
end
end Go.Proofs.Ytckoapfmfpmdgaa

namespace Go.Proofs.Ytckoapfmfpmdgaa
open Go.ChangeShapes Go.WideShapes Go.ChangeAt Go.RowKit Go.Joins
set_option linter.unusedVariables false
set_option linter.unusedSimpArgs false

section
variable {T : TP} {W : World} {F0 Ft : Nat → Prop} {w w' : World} {g : Nat} {a : Addr} {fb ob db : Nat} {c : Cs}
set_option maxRecDepth 100000 in
set_option maxHeartbeats 2000000 in
theorem zreach_found (C : TreeC T) (h : Fi T W F0 Ft w g a fb ob db c) (t : TOk c.t) (p : ByteArray) (hp : p.size ≤ 140737488351232) (h0 : (findT c.t.l p.data.toList).2.2 = 0) : Calls Try.prog 75 #[.pointer (some ⟨g, 0, none⟩), .string p] w fun e w' => e = .returned (.tuple #[.int .i64 (findT c.t.l p.data.toList).1, .int .u16 0]) ∧ ∃ Ft', Fi T W F0 Ft' w' g a fb ob db c := by
  have c0 : w.cell? ⟨g, 0, none⟩ = some (.pointer (some a)) := h.hd.cell 0
  have FD := zfind_t C h t p hp
  clear h t hp
  generalize findT c.t.l p.data.toList = r at *
  obtain ⟨fn, fd, fno⟩ := r
  simp only at h0 FD ⊢
  subst h0
  go_enter Try.func75, Try.ntmps75
  go_wp2_with (go_at_call 27; (with_reducible refine FD.mono ?_); rintro e w1 ⟨rfl, H1⟩; replace H1 := Lib.hid H1)
  go_ret2
  exact ⟨rfl, H1.out⟩
set_option maxRecDepth 100000 in
set_option maxHeartbeats 2000000 in
theorem zreach_full (C : TreeC T) (h : Fi T W F0 Ft w g a fb ob db c) (t : TOk c.t) (p : ByteArray) (hp : p.size ≤ 140737488351232) (h0 : (findT c.t.l p.data.toList).2.2 ≠ 0) (h1 : (makeT c.t p.data.toList false).1.2 ≠ 0) : Calls Try.prog 75 #[.pointer (some ⟨g, 0, none⟩), .string p] w fun e w' => e = .returned (.tuple #[.int .i64 (makeT c.t p.data.toList false).1.1, .int .u16 (makeT c.t p.data.toList false).1.2]) ∧ ∃ Ft', Fi T W F0 Ft' w' g a fb ob db { c with t := (makeT c.t p.data.toList false).2 } := by
  have c0 : w.cell? ⟨g, 0, none⟩ = some (.pointer (some a)) := h.hd.cell 0
  have FD := zfind_t C h t p hp
  have MK : Hid (∀ w1 Ft1, Fi T W F0 Ft1 w1 g a fb ob db c → Calls Try.prog 23 #[.pointer (some a), .string p, .bool false] w1 fun e w' => e = .returned (.tuple #[.int .i64 (makeT c.t p.data.toList false).1.1, .int .u16 (makeT c.t p.data.toList false).1.2]) ∧ ∃ Ft', Fi T W F0 Ft' w' g a fb ob db { c with t := (makeT c.t p.data.toList false).2 }) := fun w1 Ft1 h1 => zmake_t C h1 t p hp false
  clear h t hp
  generalize findT c.t.l p.data.toList = r at *
  obtain ⟨fn, fd, fno⟩ := r
  generalize makeT c.t p.data.toList false = q at *
  obtain ⟨⟨mn, mno⟩, t2⟩ := q
  simp only at h0 h1 FD MK ⊢
  have e0 : (fno == 0) = false := beq_false_of_ne h0
  have e1 : (mno == 0) = false := beq_false_of_ne h1
  clear h0 h1
  go_enter Try.func75, Try.ntmps75
  go_wp2_with (first
    | (go_at_call 27; (with_reducible refine FD.mono ?_); rintro e w1 ⟨rfl, H1⟩; obtain ⟨Ft1, H1⟩ := H1; have c1 : w1.cell? ⟨g, 0, none⟩ = some (.pointer (some a)) := H1.hd.cell 0; have MM := MK.out w1 Ft1 H1; clear H1)
    | (go_at_call 23; (with_reducible refine MM.mono ?_); rintro e w3 ⟨rfl, H3⟩; replace H3 := Lib.hid H3))
  go_ret2
  exact ⟨rfl, H3.out⟩
set_option maxRecDepth 100000 in
set_option maxHeartbeats 2000000 in
theorem zreach_made (C : TreeC T) (h : Fi T W F0 Ft w g a fb ob db c) (t : TOk c.t) (hb : Bnd c) (p : ByteArray) (hp : p.size ≤ 140737488351232) (h0 : (findT c.t.l p.data.toList).2.2 ≠ 0) {k : Nat} (h1 : (makeT c.t p.data.toList false).1 = ((k : Int), 0)) (hk : k < 1000001) : Calls Try.prog 75 #[.pointer (some ⟨g, 0, none⟩), .string p] w fun e w' => e = .returned (.tuple #[.int .i64 (k : Int), .int .u16 0]) ∧ ∃ Ft', Fi T W F0 Ft' w' g a fb ob db { c with t := (makeT c.t p.data.toList false).2, f := setM c.f k (some ⟨List.replicate 8 0, 0, false⟩) } := by
  have c0 : w.cell? ⟨g, 0, none⟩ = some (.pointer (some a)) := h.hd.cell 0
  have FD := zfind_t C h t p hp
  have MK : Hid (∀ w1 Ft1, Fi T W F0 Ft1 w1 g a fb ob db c → Calls Try.prog 23 #[.pointer (some a), .string p, .bool false] w1 fun e w' => e = .returned (.tuple #[.int .i64 (makeT c.t p.data.toList false).1.1, .int .u16 (makeT c.t p.data.toList false).1.2]) ∧ ∃ Ft', Fi T W F0 Ft' w' g a fb ob db { c with t := (makeT c.t p.data.toList false).2 }) := fun w1 Ft1 h1 => zmake_t C h1 t p hp false
  have HB : Hid (Bnd { c with t := (makeT c.t p.data.toList false).2 }) := ⟨hb.f, hb.o, hb.d⟩
  clear h t hp hb
  generalize findT c.t.l p.data.toList = r at *
  obtain ⟨fn, fd, fno⟩ := r
  generalize makeT c.t p.data.toList false = q at *
  obtain ⟨⟨mn, mno⟩, t2⟩ := q
  simp only at h0 h1 FD MK HB ⊢
  obtain ⟨rfl, rfl⟩ := Prod.mk.inj h1
  have e0 : (fno == 0) = false := beq_false_of_ne h0
  have HK := Lib.hid hk
  clear h0 h1 hk
  go_enter Try.func75, Try.ntmps75
  go_upto_region 6 with (first
    | (go_at_call 27; (with_reducible refine FD.mono ?_); rintro e w1 ⟨rfl, H1⟩; obtain ⟨Ft1, H1⟩ := H1; have c1 : w1.cell? ⟨g, 0, none⟩ = some (.pointer (some a)) := H1.hd.cell 0; have MM := MK.out w1 Ft1 H1; clear H1)
    | (go_at_call 23; (with_reducible refine MM.mono ?_); rintro e w3 ⟨rfl, H3⟩))
  obtain ⟨Ft3, H3⟩ := H3
  have c3 : w3.cell? ⟨g, 1, none⟩ = some (.map (some fb)) := H3.hd.cell 1
  obtain ⟨w4, hup, hn4, ht4⟩ := H3.storef HB.out HK.out ⟨List.replicate 8 0, 0, false⟩
  replace hup : (Instr.mapUpdate tMF (.map (some fb)) (.int .i64 (k : Int)) (.agg #[.int .u8 0, .int .u8 0, .int .u8 0, .int .u8 0, .int .u8 0, .int .u8 0, .int .u8 0, .int .u8 0, .int .i64 0, .bool false])).run Try.prog w3 = .ok () w4 := hup
  have HF4 := Lib.hid (H3.turnf C ht4 (x := some ⟨List.replicate 8 0, 0, false⟩) (fun y hy => by cases hy; rfl) hn4)
  clear H3 ht4 hn4 FD
  go_wp2
  go_ret2
  exact ⟨rfl, Ft3, HF4.out⟩
end
end Go.Proofs.Ytckoapfmfpmdgaa
