/-
  Parts of the proof, joined: FzK, FzL, FzM.
-/
import Derived.Test.YtckoapfmfpmdgaaMp17

namespace Go.Proofs.Ytckoapfmfpmdgaa
open Go.ChangeShapes Go.WideShapes Go.ChangeAt Go.RowKit Go.Joins
set_option linter.unusedVariables false
set_option linter.unusedSimpArgs false

theorem w64_nat {n : Nat} (h : n ≤ 1000000) : wrap64 (n : Int) = n := i64_wrap_in _ (by omega) (by omega)
theorem read_nums {at_ xn n fr to_ : Nat} (hn8 : xn ≤ 8) (ha : at_ ≤ 263) (hn : n ≤ 65535) (hfr : fr = min at_ xn) (hto : to_ = min (fr + n) xn) :
    ∃ k, k = to_ - fr ∧ k ≤ 8 ∧ fr + k = to_ ∧ to_ ≤ 8 ∧ to_ ≤ xn ∧ min (at_ : Int) (xn : Int) = (fr : Int) ∧ min ((fr : Int) + (n : Int)) (xn : Int) = (to_ : Int) ∧ wrap64 ((fr : Int) + (n : Int)) = (fr : Int) + (n : Int) ∧ wrap64 ((to_ : Int) - (fr : Int)) = (k : Int) ∧ wrap64 ((at_ : Int) + (k : Int)) = ((at_ + k : Nat) : Int) ∧ IntKind.u16.wrap (k : Int) = k := by
  obtain ⟨k, rfl⟩ : ∃ k, to_ = fr + k := ⟨to_ - fr, by omega⟩
  refine ⟨k, by omega, by omega, rfl, by omega, by omega, by omega, by omega, ?_, ?_, ?_, u16_in (by omega)⟩
  · have := w64_nat (n := fr + n) (by omega)
    rwa [Int.natCast_add] at this
  · have := w64_nat (n := k) (by omega)
    rwa [show ((fr + k : Nat) : Int) - (fr : Int) = (k : Int) by omega]
  · have := w64_nat (n := at_ + k) (by omega)
    rwa [Int.natCast_add] at this ⊢
theorem zclone_n (w : World) {b off cap n : Nat} {l : List UInt8} (hl : l.length = n) (h8 : n ≤ 8) (hc : ∀ (j : Nat) x, l[j]? = some x → w.cell? ⟨b, off + j, none⟩ = some (ubV x)) :
    Calls Try.prog 77 #[.slice (some ⟨b, off, none⟩) n cap] w fun e w' => ∃ x, e = .returned x ∧ Gw w w' ∧ NewB w.heap.size w' x l := by
  subst hl
  exact zclone_any w h8 hc
theorem fil_cell {w : World} {g : Nat} {t : TypeId} {x : Fil} (h : Has w g t (filC x).toArray) {j : Nat} {y : UInt8} (hj : x.b[j]? = some y) : w.cell? ⟨g, j, none⟩ = some (ubV y) := by
  rw [h.cell]
  have hl := (List.getElem?_eq_some_iff.1 hj).1
  rw [List.getElem?_toArray, List.getElem?_append_left (by simpa using hl), List.getElem?_map, hj]
  rfl
section
variable {T : TP} {W : World} {F0 Ft : Nat → Prop} {w w' : World} {g : Nat} {a : Addr} {fb ob db : Nat} {c : Cs}
set_option maxRecDepth 100000 in
set_option maxHeartbeats 2000000 in
theorem zread_none (C : TreeC T) (h : Fi T W F0 Ft w g a fb ob db c) {fd : Nat} (hf : fd ≤ 65535) (hd : c.d fd = none) (n : Nat) : Calls Try.prog 35 #[.pointer (some ⟨g, 0, none⟩), .int .u16 (fd : Int), .int .u16 (n : Int)] w fun e w' => e = .returned (.tuple #[.slice none 0 0, .int .u16 65289]) ∧ Gw w w' := by
  have OP := zopened_any C h hf
  rw [hd] at OP
  simp only [opdV] at OP
  have hn : ∀ b w, (Op.unary .not (.bool b)).run Try.prog w = .ok (.bool (!b)) w := fun _ _ => rfl
  clear h hd
  go_enter Try.func35, Try.ntmps35
  go_wp2_with (go_at_call 76; (with_reducible refine OP.mono ?_); rintro e w1 ⟨rfl, G1⟩)
  go_ret2
  exact ⟨rfl, G1⟩
/-- o.at has changed, then f.opens[number] = o. -/
theorem XQ.buto {T : TP} (C : TreeC T) {W : World} {F0 Ft : Nat → Prop} {g : Nat} {a : Addr} {fb ob db : Nat} {c : Cs} {op xp fl at_ at2 : Nat} {wx : World} (h : XQ T W F0 Ft g a fb ob db c op xp fl at_ wx) : XQ T W F0 Ft g a fb ob db c op xp fl at2 (wx.setCell ⟨op, 1, none⟩ (.int .i64 (at2 : Int))) :=
  ⟨h.ho.put 1 _, h.fi.off C h.no h.wo (But.set op wx 1 _), h.nx, h.no, h.ne, h.wx, h.wo⟩
set_option maxRecDepth 100000 in
set_option maxHeartbeats 2000000 in
theorem zread_some (C : TreeC T) (h : Fi T W F0 Ft w g a fb ob db c) {fd i fl at_ : Nat} (hf : fd ≤ 65535) (hd : c.d fd = some i) (ho : c.o i = some (fl, at_)) (hi : i < 1000001) {x : Fil} (hx : c.f fl = some x) (hfl : fl < 1000001) (hn8 : x.n ≤ 8) (hb : Bnd c) (ha : at_ ≤ 263) {n fr to_ : Nat} (hn : n ≤ 65535) (hfr : fr = min at_ x.n) (hto : to_ = min (fr + n) x.n) : Calls Try.prog 35 #[.pointer (some ⟨g, 0, none⟩), .int .u16 (fd : Int), .int .u16 (n : Int)] w fun e w' => ∃ y, e = .returned (.tuple #[y, .int .u16 ((to_ - fr : Nat) : Int)]) ∧ Fi T W F0 Ft w' g a fb ob db { c with o := setM c.o i (some (fl, at_ + (to_ - fr))) } ∧ (∃ w1, ChF F0 W w1 ∧ W.heap.size ≤ w1.heap.size ∧ (∀ k, fF g fb ob db Ft k → k < w1.heap.size) ∧ NewB w1.heap.size w' y ((x.b.drop fr).take (to_ - fr))) := by
  have HB := Lib.hid hb
  obtain ⟨b0, b1, b2, b3, b4, b5, b6, b7, he⟩ := fil8 (h.l8 fl x hx)
  obtain ⟨xb, xn, xo⟩ := x
  simp only at he hn8
  subst he
  have HX := Lib.hid hx
  have HFL : Hid (fl ≤ 9223372036854775807) := by show _ ≤ _; omega
  have HFL1 := Lib.hid hfl
  have HN8 := Lib.hid hn8
  clear hx hfl
  simp only at hfr hto
  obtain ⟨k, hkk, k8, kfr, to8, tox, m1, m2, hw2, hw3, hw4, hw5⟩ := read_nums hn8 ha hn hfr hto
  have hw := i64_in (n := n) (by omega)
  rw [← hkk]
  have HK : Hid (k ≤ 8 ∧ fr + k = to_ ∧ to_ ≤ 8) := ⟨k8, kfr, to8⟩
  obtain ⟨at2, ha2⟩ : ∃ at2, at2 = at_ + k := ⟨_, rfl⟩
  rw [← ha2] at hw4 ⊢
  clear hn8 hfr hto hn hb ha hkk ha2 k8 kfr to8 tox
  have OP := zopened_any C h hf
  rw [hd] at OP
  simp only [opdV] at OP
  have hn : ∀ b w, (Op.unary .not (.bool b)).run Try.prog w = .ok (.bool (!b)) w := fun _ _ => rfl
  have HH := Lib.hid h
  have HO := Lib.hid ho
  have HI9 : Hid (i ≤ 9223372036854775807) := by show _ ≤ _; omega
  have HI := Lib.hid hi
  have HHS := Lib.hid h.ch.size
  clear h hd ho hi hf
  go_enter Try.func35, Try.ntmps35
  go_upto_region 5 with (go_at_call 76; (with_reducible refine OP.mono ?_); rintro e w1 ⟨rfl, G1⟩; have H1 := HH.out.on C G1; have c2 : w1.cell? ⟨g, 2, none⟩ = some (.map (some ob)) := H1.hd.cell 2; have LO := H1.looko (k := i) HI9.out; rw [HO.out] at LO; replace LO : _ = Result.ok (Value.agg #[.int .i64 (fl : Int), .int .i64 (at_ : Int)]) w1 := LO; replace H1 := Lib.hid H1)
  have HV := Has.new w1 124 #[.int .i64 (fl : Int), .int .i64 (at_ : Int)]
  have GV : Hid (Gw w1 (w1.alloc (.cells #[.int .i64 (fl : Int), .int .i64 (at_ : Int)] 124))) := Gw.alloc _ _
  have HBX := Lib.hid (H1.out.box C)
  have HSZ : Hid (W.heap.size ≤ w1.heap.size) := Nat.le_trans HHS.out G1.size
  have HG1 := Lib.hid G1
  clear c2 LO G1
  generalize w1.heap.size = op at *
  generalize (w1.alloc (.cells #[.int .i64 (fl : Int), .int .i64 (at_ : Int)] 124)) = V at *
  have HF := Lib.hid (H1.out.on C GV.out)
  obtain ⟨o0, o1⟩ := box2 HV
  have L := (HF.out.drew C).lookf (k := fl) HFL.out
  rw [HX.out] at L
  replace L : _ = Result.ok (Value.agg #[ubV b0, ubV b1, ubV b2, ubV b3, ubV b4, ubV b5, ubV b6, ubV b7, .int .i64 (xn : Int), .bool xo]) V.drew := L
  have c1 : V.cell? ⟨g, 1, none⟩ = some (.map (some fb)) := HF.out.hd.cell 1
  have GA : Gw V (V.alloc (.cells #[.int .u8 0, .int .u8 0, .int .u8 0, .int .u8 0, .int .u8 0, .int .u8 0, .int .u8 0, .int .u8 0, .int .i64 0, .bool false] 114)).drew := (Gw.alloc _ _).drew
  have o0a := GA.cell o0
  have c1a := GA.cell c1
  have La := (HF.out.on C GA).lookf (k := fl) HFL.out
  rw [HX.out] at La
  replace La : _ = Result.ok (Value.agg #[ubV b0, ubV b1, ubV b2, ubV b3, ubV b4, ubV b5, ubV b6, ubV b7, .int .i64 (xn : Int), .bool xo]) (V.alloc (.cells #[.int .u8 0, .int .u8 0, .int .u8 0, .int .u8 0, .int .u8 0, .int .u8 0, .int .u8 0, .int .u8 0, .int .i64 0, .bool false] 114)).drew := La
  clear GA
  go_cut [12] (fun sx wx => ∃ xp : Nat, sx = .pointer (some ⟨xp, 0, none⟩) ∧ Hid (XP T W F0 Ft g a fb ob db c V op xp fl at_ ⟨[b0, b1, b2, b3, b4, b5, b6, b7], xn, xo⟩ wx))
  case first =>
    go_region
    all_goals (
      go_wp2_with fail
      go_meet
      exact ⟨_, rfl, XP.mk0 C HF.out HV HBX.out HSZ.out⟩)
  case rest =>
    obtain ⟨xp, rfl, HXP⟩ := hcut
    clear L La c1 c1a o0 o0a o1 HV GV HF HG1 HSZ HBX
    have X0 : Has _ xp 114 #[ubV b0, ubV b1, ubV b2, ubV b3, ubV b4, ubV b5, ubV b6, ubV b7, .int .i64 (xn : Int), .bool xo] := HXP.out.hx
    have HXQ := Lib.hid (HXP.out.but C (But.refl _ _))
    obtain ⟨x8, f8⟩ := box8 X0
    obtain ⟨o0, o1⟩ := box2 HXQ.out.ho
    have fo1 := HXQ.out.ho.free 1
    have HX0 := Lib.hid X0
    clear X0 HXP
    go_upto_region 9 with fail
    have HXR := Lib.hid (HXQ.out.buto C (at2 := at2))
    have HX6 := Lib.hid ((But.set op _ 1 (.int .i64 (at2 : Int))).has HXQ.out.ne HX0.out)
    clear x8 f8 o0 o1 fo1 HXQ HX0
    generalize (World.setCell _ (⟨op, 1, none⟩ : Addr) (.int .i64 (at2 : Int))) = V6 at *
    obtain ⟨o0, o1⟩ := box2 HXR.out.ho
    have k2 : V6.cell? ⟨g, 2, none⟩ = some (.map (some ob)) := HXR.out.fi.hd.cell 2
    obtain ⟨w7, hup, hn7, ht7⟩ := (HXR.out.fi.drew C).storeo HB.out HI.out (fl, at2)
    replace hup : (Instr.mapUpdate tMO (.map (some ob)) (.int .i64 (i : Int)) (.agg #[.int .i64 (fl : Int), .int .i64 (at2 : Int)])).run Try.prog V6.drew = .ok () w7 := hup
    have HF2 := Lib.hid ((HXR.out.fi.drew C).turno C ht7 (x := some (fl, at2)) hn7)
    have X7 : Has w7 xp 114 (filC ⟨[b0, b1, b2, b3, b4, b5, b6, b7], xn, xo⟩).toArray := HX6.out.same (show w7.heap[xp]? = V6.drew.heap[xp]? from turn_block ht7 HX6.out.lt (fun e => HXR.out.nx (by rw [e]; exact .inr (.inr (.inl rfl)))))
    have HCELL : Hid (∀ (j : Nat) x, ([b0, b1, b2, b3, b4, b5, b6, b7].drop fr |>.take k)[j]? = some x → w7.cell? ⟨xp, fr + j, none⟩ = some (ubV x)) := fun j x hj => by
      rw [List.getElem?_take] at hj
      split at hj
      · rw [List.getElem?_drop] at hj; exact fil_cell X7 hj
      · cases hj
    have HLEN : Hid (([b0, b1, b2, b3, b4, b5, b6, b7].drop fr |>.take k).length = k) := by have := HK.out; show _ = _; simp; omega
    have HLW : Hid (ChF F0 W w7 ∧ W.heap.size ≤ w7.heap.size ∧ ∀ j, fF g fb ob db Ft j → j < w7.heap.size) := ⟨HF2.out.ch, HF2.out.ch.size, fun j hj => HF2.out.lt C hj⟩
    clear X7 hn7 ht7
    have hto8 : (to_ : Int) ≤ 8 := by have := HK.out; omega
    have hft : (fr : Int) ≤ (to_ : Int) := by have := HK.out; omega
    have hkn : to_ - fr = k := by have := HK.out; omega
    go_region_law (fail)
    all_goals (
      by_cases h8 : fr = 8
      · obtain rfl : fr = 8 := h8
        obtain rfl : k = 0 := by have := HK.out; omega
        obtain rfl : to_ = 8 := by have := HK.out; omega
        have CL := zclone_n w7 (b := xp) (off := 0) (cap := 0) (n := 0) (l := []) rfl (Nat.zero_le _) (fun j x hj => by simp at hj)
        clear hkn
        go_wp2_with (go_at_call 77; (with_reducible refine CL.mono ?_); rintro e w8 ⟨y, rfl, G8, N8⟩)
        go_ret2
        exact ⟨y, rfl, HF2.out.on C G8, w7, HLW.out.1, HLW.out.2.1, HLW.out.2.2, by rw [List.take_zero]; exact N8⟩
      · have CL := zclone_n w7 (b := xp) (off := fr) (cap := 8 - fr) HLEN.out (by have := HK.out; omega) HCELL.out
        go_wp2_with (go_at_call 77; (with_reducible refine CL.mono ?_); rintro e w8 ⟨y, rfl, G8, N8⟩)
        go_ret2
        exact ⟨y, by show Ending.returned (.tuple #[y, .int .u16 ((to_ : Int) - (fr : Int))]) = _; rw [show (to_ : Int) - (fr : Int) = (k : Int) by have := HK.out; omega], HF2.out.on C G8, w7, HLW.out.1, HLW.out.2.1, HLW.out.2.2, N8⟩)
end
end Go.Proofs.Ytckoapfmfpmdgaa

namespace Go.Proofs.Ytckoapfmfpmdgaa
open Go.ChangeShapes Go.WideShapes Go.ChangeAt Go.RowKit Go.Joins
set_option linter.unusedVariables false
set_option linter.unusedSimpArgs false

theorem Bnd.setf {c : Cs} (h : Bnd c) {k : Nat} (hk : k < 1000001) (x : Fil) : Bnd { c with f := setM c.f k (some x) } :=
  ⟨fun n y hy => by rcases setM_some hy with ⟨e, _⟩ | ⟨_, hy⟩; rw [e]; exact hk; exact h.f n y hy, h.o, h.d⟩
theorem copy_run {w : World} {xp : Nat} {x : Fil} (hx : Has w xp 114 (filC x).toArray) (h8 : x.b.length = 8) {at_ m : Nat} {lb : List UInt8} (ha : at_ < 8) (hm : m = min lb.length (8 - at_)) {yb yo cap : Nat} (hy : ∀ (j : Nat) c, lb[j]? = some c → w.cell? ⟨yb, yo + j, none⟩ = some (ubV c)) (ty : TypeId) :
    ∃ w', (Builtin.copy_ #[52, 52] ty #[.slice (some ⟨xp, at_, none⟩) (8 - at_) (8 - at_), .slice (some ⟨yb, yo, none⟩) lb.length cap]).run Try.prog w = .ok (.int .i64 (m : Int)) w' ∧ Has w' xp 114 (filC { x with b := x.b.take at_ ++ lb.take m ++ x.b.drop (at_ + m) }).toArray ∧ But xp w w' := by
  obtain ⟨i0, hi, hz0, hz1, hz2⟩ := info_ub
  have hlen : (filC x).length = 10 := by simp [filC, h8]
  have hcl : ((lb.take m).map ubV).length = m := by simp; omega
  have hr := run_copy_row (P := Try.prog) w 52 52 ty 5 xp at_ (8 - at_) (8 - at_) ⟨yb, yo, none⟩ lb.length cap (filC x).toArray 114 ((lb.take m).map ubV) Try.underlying52 (by rw [hi]; simp [hz1]) hx (by rw [hcl, hm]) (fun j v hj => by
      rw [List.getElem?_map, List.getElem?_take] at hj
      split at hj
      · cases e : lb[j]? with
        | none => rw [e] at hj; cases hj
        | some c => rw [e] at hj; cases hj; rw [add_eq]; exact hy j c e
      · cases hj) (by rw [hcl, List.size_toArray, hlen]; omega) (fun v hv => by obtain ⟨c, _, rfl⟩ := List.mem_map.1 hv; rfl)
  rw [hcl] at hr
  refine ⟨_, hr, ?_, ?_⟩
  · have h1 := setRow_heap w xp _ ((filC x).toArray.toList.take at_ ++ (lb.take m).map ubV ++ (filC x).toArray.toList.drop (at_ + ((lb.take m).map ubV).length)).toArray _ _ hx
    rw [hcl] at h1
    have e : filC { x with b := x.b.take at_ ++ lb.take m ++ x.b.drop (at_ + m) } = (filC x).take at_ ++ (lb.take m).map ubV ++ (filC x).drop (at_ + m) := by
      unfold filC
      rw [List.map_append, List.map_append, List.map_take, List.map_drop, List.take_append_of_le_length (by simp [h8]; omega), List.drop_append_of_le_length (by simp [h8]; omega)]
      simp only [List.append_assoc]
    rw [e]; exact h1
  · exact ⟨rfl, rfl, by simp [World.setRow], fun k _ hk => setRow_other w xp k _ hk⟩
theorem write_nums {at_ xn m : Nat} (hn8 : xn ≤ 8) (ha : at_ < 8) (hm : at_ + m ≤ 8) : ∃ at2 sz : Nat, at2 = at_ + m ∧ sz = max xn (at_ + m) ∧ wrap64 ((at_ : Int) + (m : Int)) = (at2 : Int) ∧ max (xn : Int) (at2 : Int) = (sz : Int) ∧ IntKind.u16.wrap (m : Int) = m ∧ sz ≤ 8 := by
  refine ⟨at_ + m, max xn (at_ + m), rfl, rfl, ?_, by omega, u16_in (by omega), by omega⟩
  have := w64_nat (n := at_ + m) (by omega)
  rwa [Int.natCast_add] at this ⊢
section
variable {T : TP} {W : World} {F0 Ft : Nat → Prop} {w w' : World} {g : Nat} {a : Addr} {fb ob db : Nat} {c : Cs}
set_option maxRecDepth 100000 in
set_option maxHeartbeats 2000000 in
theorem zwrite_none (C : TreeC T) (h : Fi T W F0 Ft w g a fb ob db c) {fd : Nat} (hf : fd ≤ 65535) (hd : c.d fd = none) (y : Value) : Calls Try.prog 37 #[.pointer (some ⟨g, 0, none⟩), .int .u16 (fd : Int), y] w fun e w' => e = .returned (.int .u16 65289) ∧ Gw w w' := by
  have OP := zopened_any C h hf
  rw [hd] at OP
  simp only [opdV] at OP
  have hn : ∀ b w, (Op.unary .not (.bool b)).run Try.prog w = .ok (.bool (!b)) w := fun _ _ => rfl
  clear h hd
  go_enter Try.func37, Try.ntmps37
  go_wp2_with (go_at_call 76; (with_reducible refine OP.mono ?_); rintro e w1 ⟨rfl, G1⟩)
  go_ret
  exact ⟨rfl, G1⟩
set_option maxRecDepth 100000 in
set_option maxHeartbeats 2000000 in
theorem zwrite_nil (C : TreeC T) (h : Fi T W F0 Ft w g a fb ob db c) {fd i : Nat} (hf : fd ≤ 65535) (hd : c.d fd = some i) (A : Option Addr) (cap : Nat) : Calls Try.prog 37 #[.pointer (some ⟨g, 0, none⟩), .int .u16 (fd : Int), .slice A 0 cap] w fun e w' => e = .returned (.int .u16 0) ∧ Gw w w' := by
  have OP := zopened_any C h hf
  rw [hd] at OP
  simp only [opdV] at OP
  have hn : ∀ b w, (Op.unary .not (.bool b)).run Try.prog w = .ok (.bool (!b)) w := fun _ _ => rfl
  clear h hd
  go_enter Try.func37, Try.ntmps37
  go_wp2_with (go_at_call 76; (with_reducible refine OP.mono ?_); rintro e w1 ⟨rfl, G1⟩)
  go_ret
  exact ⟨rfl, G1⟩
set_option maxRecDepth 100000 in
set_option maxHeartbeats 2000000 in
theorem zwrite_full (C : TreeC T) (h : Fi T W F0 Ft w g a fb ob db c) {fd i fl at_ : Nat} (hf : fd ≤ 65535) (hd : c.d fd = some i) (ho : c.o i = some (fl, at_)) (hi : i < 1000001) {lb : List UInt8} (hl : lb ≠ []) (ha : 8 ≤ at_) (A : Option Addr) (cap : Nat) : Calls Try.prog 37 #[.pointer (some ⟨g, 0, none⟩), .int .u16 (fd : Int), .slice A lb.length cap] w fun e w' => e = .returned (.int .u16 65308) ∧ Gw w w' := by
  have t1 : ((lb.length : Int) == 0) = false := beq_false_of_ne (by have : lb.length ≠ 0 := fun e => hl (List.eq_nil_of_length_eq_zero e); omega)
  have t2 : decide ((8 : Int) ≤ (at_ : Int)) = true := decide_eq_true (by omega)
  generalize lb.length = ll at *
  clear hl ha
  have OP := zopened_any C h hf
  rw [hd] at OP
  simp only [opdV] at OP
  have hn : ∀ b w, (Op.unary .not (.bool b)).run Try.prog w = .ok (.bool (!b)) w := fun _ _ => rfl
  have HH := Lib.hid h
  have HO := Lib.hid ho
  have HI9 : Hid (i ≤ 9223372036854775807) := by show _ ≤ _; omega
  have HI := Lib.hid hi
  have HHS := Lib.hid h.ch.size
  clear h hd ho hi hf
  go_enter Try.func37, Try.ntmps37
  go_wp2_with (go_at_call 76; (with_reducible refine OP.mono ?_); rintro e w1 ⟨rfl, G1⟩; have H1 := HH.out.on C G1; have c2 : w1.cell? ⟨g, 2, none⟩ = some (.map (some ob)) := H1.hd.cell 2; have LO := H1.looko (k := i) HI9.out; rw [HO.out] at LO; replace LO : _ = Result.ok (Value.agg #[.int .i64 (fl : Int), .int .i64 (at_ : Int)]) w1 := LO; clear H1)
  go_ret
  exact ⟨rfl, G1.trans (Gw.alloc _ _)⟩
set_option maxRecDepth 100000 in
set_option maxHeartbeats 2000000 in
theorem zwrite_some (C : TreeC T) (h : Fi T W F0 Ft w g a fb ob db c) {fd i fl at_ : Nat} (hf : fd ≤ 65535) (hd : c.d fd = some i) (ho : c.o i = some (fl, at_)) (hi : i < 1000001) {x : Fil} (hx : c.f fl = some x) (hfl : fl < 1000001) (hn8 : x.n ≤ 8) (hb : Bnd c) {lb : List UInt8} (hl : lb ≠ []) (ha : at_ < 8) {m : Nat} (hm : m = min lb.length (8 - at_)) {yb yo cap : Nat} (hy : ∀ (j : Nat) c, lb[j]? = some c → w.cell? ⟨yb, yo + j, none⟩ = some (ubV c)) : Calls Try.prog 37 #[.pointer (some ⟨g, 0, none⟩), .int .u16 (fd : Int), .slice (some ⟨yb, yo, none⟩) lb.length cap] w fun e w' => e = .returned (.int .u16 (m : Int)) ∧ Fi T W F0 Ft w' g a fb ob db { c with f := setM c.f fl (some ⟨x.b.take at_ ++ lb.take m ++ x.b.drop (at_ + m), max x.n (at_ + m), x.out⟩), o := setM c.o i (some (fl, at_ + m)) } := by
  have t1 : ((lb.length : Int) == 0) = false := beq_false_of_ne (by have : lb.length ≠ 0 := fun e => hl (List.eq_nil_of_length_eq_zero e); omega)
  have t2 : decide ((8 : Int) ≤ (at_ : Int)) = false := decide_eq_false (by omega)
  have hne8 : ¬ 8 = at_ := by omega
  have ha8 : (at_ : Int) ≤ 8 := by omega
  have HB := Lib.hid hb
  have HY := Lib.hid hy
  have HM := Lib.hid hm
  have HA := Lib.hid ha
  obtain ⟨b0, b1, b2, b3, b4, b5, b6, b7, he⟩ := fil8 (h.l8 fl x hx)
  obtain ⟨xb, xn, xo⟩ := x
  simp only at he hn8
  subst he
  have HX := Lib.hid hx
  have HFL : Hid (fl ≤ 9223372036854775807) := by show _ ≤ _; omega
  have HFL1 := Lib.hid hfl
  have HN8 := Lib.hid hn8
  clear hx hfl
  obtain ⟨at2, sz, hat2, hsz, hw4, hmx, hw5, hsz8⟩ := write_nums hn8 ha (m := m) (by omega)
  simp only
  rw [← hsz, ← hat2]
  have HAT := Lib.hid hat2
  clear hn8 hl ha hm hy hb hat2 hsz hsz8
  obtain ⟨ll, hll⟩ : ∃ ll, ll = lb.length := ⟨_, rfl⟩
  rw [← hll] at t1 ⊢
  have HLL := Lib.hid hll
  clear hll
  have OP := zopened_any C h hf
  rw [hd] at OP
  simp only [opdV] at OP
  have hn : ∀ b w, (Op.unary .not (.bool b)).run Try.prog w = .ok (.bool (!b)) w := fun _ _ => rfl
  have HH := Lib.hid h
  have HO := Lib.hid ho
  have HI9 : Hid (i ≤ 9223372036854775807) := by show _ ≤ _; omega
  have HI := Lib.hid hi
  have HHS := Lib.hid h.ch.size
  clear h hd ho hi hf
  go_enter Try.func37, Try.ntmps37
  go_upto_region 7 with (go_at_call 76; (with_reducible refine OP.mono ?_); rintro e w1 ⟨rfl, G1⟩; have H1 := HH.out.on C G1; have c2 : w1.cell? ⟨g, 2, none⟩ = some (.map (some ob)) := H1.hd.cell 2; have LO := H1.looko (k := i) HI9.out; rw [HO.out] at LO; replace LO : _ = Result.ok (Value.agg #[.int .i64 (fl : Int), .int .i64 (at_ : Int)]) w1 := LO; replace H1 := Lib.hid H1)
  have HV := Has.new w1 124 #[.int .i64 (fl : Int), .int .i64 (at_ : Int)]
  have GV : Hid (Gw w1 (w1.alloc (.cells #[.int .i64 (fl : Int), .int .i64 (at_ : Int)] 124))) := Gw.alloc _ _
  have HBX := Lib.hid (H1.out.box C)
  have HSZ : Hid (W.heap.size ≤ w1.heap.size) := Nat.le_trans HHS.out G1.size
  have HG1 := Lib.hid G1
  clear c2 LO G1
  generalize w1.heap.size = op at *
  generalize (w1.alloc (.cells #[.int .i64 (fl : Int), .int .i64 (at_ : Int)] 124)) = V at *
  have HF := Lib.hid (H1.out.on C GV.out)
  obtain ⟨o0, o1⟩ := box2 HV
  have L := (HF.out.drew C).lookf (k := fl) HFL.out
  rw [HX.out] at L
  replace L : _ = Result.ok (Value.agg #[ubV b0, ubV b1, ubV b2, ubV b3, ubV b4, ubV b5, ubV b6, ubV b7, .int .i64 (xn : Int), .bool xo]) V.drew := L
  have c1 : V.cell? ⟨g, 1, none⟩ = some (.map (some fb)) := HF.out.hd.cell 1
  have GA : Gw V (V.alloc (.cells #[.int .u8 0, .int .u8 0, .int .u8 0, .int .u8 0, .int .u8 0, .int .u8 0, .int .u8 0, .int .u8 0, .int .i64 0, .bool false] 114)).drew := (Gw.alloc _ _).drew
  have o0a := GA.cell o0
  have c1a := GA.cell c1
  have La := (HF.out.on C GA).lookf (k := fl) HFL.out
  rw [HX.out] at La
  replace La : _ = Result.ok (Value.agg #[ubV b0, ubV b1, ubV b2, ubV b3, ubV b4, ubV b5, ubV b6, ubV b7, .int .i64 (xn : Int), .bool xo]) (V.alloc (.cells #[.int .u8 0, .int .u8 0, .int .u8 0, .int .u8 0, .int .u8 0, .int .u8 0, .int .u8 0, .int .u8 0, .int .i64 0, .bool false] 114)).drew := La
  clear GA
  go_cut [11] (fun sx wx => ∃ xp : Nat, sx = .pointer (some ⟨xp, 0, none⟩) ∧ Hid (XP T W F0 Ft g a fb ob db c V op xp fl at_ ⟨[b0, b1, b2, b3, b4, b5, b6, b7], xn, xo⟩ wx))
  case first =>
    go_region
    all_goals (
      go_wp2_with fail
      go_meet
      exact ⟨_, rfl, XP.mk0 C HF.out HV HBX.out HSZ.out⟩)
  case rest =>
    obtain ⟨xp, rfl, HXP⟩ := hcut
    clear L La c1 c1a o0 o0a o1 HV HF HSZ HBX
    obtain ⟨w3, RC, H3, B3⟩ := copy_run HXP.out.hx rfl HA.out HM.out (yb := yb) (yo := yo) (cap := cap) (fun j y hj => (HXP.out.gv).cell (GV.out.cell (HG1.out.cell (HY.out j y hj)))) 3
    rw [← HLL.out] at RC
    have hl : ([b0, b1, b2, b3, b4, b5, b6, b7].take at_ ++ lb.take m ++ [b0, b1, b2, b3, b4, b5, b6, b7].drop (at_ + m)).length = 8 := by have := HM.out; have := HA.out; simp; omega
    obtain ⟨c0, c1, c2, c3, c4, c5, c6, c7, he⟩ := fil8 (x := ⟨_, xn, xo⟩) hl
    simp only at he
    replace he := Lib.hid he
    have X0 := H3
    simp only at X0
    rw [he.out] at X0
    replace X0 : Has w3 xp 114 #[ubV c0, ubV c1, ubV c2, ubV c3, ubV c4, ubV c5, ubV c6, ubV c7, .int .i64 (xn : Int), .bool xo] := X0
    have HXQ := Lib.hid (HXP.out.but C B3)
    obtain ⟨x8, f8⟩ := box8 X0
    obtain ⟨z0, z1⟩ := box2 HXQ.out.ho
    obtain ⟨y0, y1⟩ := box2 HXP.out.ho
    have HX0 := Lib.hid X0
    clear X0 HXP H3 B3 hl GV HG1
    go_upto_region 10 with fail
    have HV4 := Lib.hid (HX0.out.put 8 (.int .i64 (sz : Int)))
    have HXR := Lib.hid (HXQ.out.but C (But.set xp _ 8 (.int .i64 (sz : Int))))
    clear x8 f8 HXQ HX0
    generalize (World.setCell _ (⟨xp, 8, none⟩ : Addr) (.int .i64 (sz : Int))) = V4 at *
    have X4 : Has V4 xp 114 #[ubV c0, ubV c1, ubV c2, ubV c3, ubV c4, ubV c5, ubV c6, ubV c7, .int .i64 (sz : Int), .bool xo] := HV4.out
    obtain ⟨e0, e1, e2, e3, e4, e5, e6, e7, e8, e9⟩ := box10 X4
    obtain ⟨o0, o1⟩ := box2 HXR.out.ho
    have k1 : V4.cell? ⟨g, 1, none⟩ = some (.map (some fb)) := HXR.out.fi.hd.cell 1
    obtain ⟨w5, hup, hn5, ht5⟩ := (HXR.out.fi.drew C).storef HB.out HFL1.out ⟨[c0, c1, c2, c3, c4, c5, c6, c7], sz, xo⟩
    replace hup : (Instr.mapUpdate tMF (.map (some fb)) (.int .i64 (fl : Int)) (.agg #[ubV c0, ubV c1, ubV c2, ubV c3, ubV c4, ubV c5, ubV c6, ubV c7, .int .i64 (sz : Int), .bool xo])).run Try.prog V4.drew = .ok () w5 := hup
    have HF2 := Lib.hid ((HXR.out.fi.drew C).turnf C ht5 (x := some ⟨[c0, c1, c2, c3, c4, c5, c6, c7], sz, xo⟩) (fun y hy => by cases hy; rfl) hn5)
    clear hn5 X4 HV4
    have HT5 := Lib.hid ht5
    go_cut [] (fun wx => wx = w5)
    case first =>
      go_region_law (fail)
      all_goals (
        go_wp2_with fail
        go_meet
        rfl)
    case rest =>
      obtain rfl := hcut
      have HB2 := Lib.hid (HB.out.setf HFL1.out ⟨[c0, c1, c2, c3, c4, c5, c6, c7], sz, xo⟩)
      have HXQ : Hid (XQ T W F0 Ft g a fb ob db _ op xp fl at_ wc) := ⟨HXR.out.ho.same (show wc.heap[op]? = V4.drew.heap[op]? from turn_block HT5.out HXR.out.ho.lt (fun e => HXR.out.no (by rw [e]; exact .inr (.inl rfl)))), HF2.out, HXR.out.nx, HXR.out.no, HXR.out.ne, HXR.out.wx, HXR.out.wo⟩
      clear HXR HT5 HF2 o0 o1 z0 z1 y0 y1 e0 e1 e2 e3 e4 e5 e6 e7 e8 e9 k1
      obtain ⟨o0, o1⟩ := box2 HXQ.out.ho
      have fo1 := HXQ.out.ho.free 1
      go_upto_region 12 with fail
      have HXR := Lib.hid (HXQ.out.buto C (at2 := at2))
      clear o0 o1 fo1 HXQ
      generalize (World.setCell _ (⟨op, 1, none⟩ : Addr) (.int .i64 (at2 : Int))) = V6 at *
      obtain ⟨o0, o1⟩ := box2 HXR.out.ho
      have k2 : V6.cell? ⟨g, 2, none⟩ = some (.map (some ob)) := HXR.out.fi.hd.cell 2
      obtain ⟨w7, hup, hn7, ht7⟩ := (HXR.out.fi.drew C).storeo HB2.out HI.out (fl, at2)
      replace hup : (Instr.mapUpdate tMO (.map (some ob)) (.int .i64 (i : Int)) (.agg #[.int .i64 (fl : Int), .int .i64 (at2 : Int)])).run Try.prog V6.drew = .ok () w7 := hup
      have HF2 := Lib.hid ((HXR.out.fi.drew C).turno C ht7 (x := some (fl, at2)) hn7)
      clear hn7 ht7
      go_region_law (fail)
      all_goals (
        go_wp2
        go_ret
        exact ⟨rfl, by have h9 := he.out; rw [List.append_assoc, ← HAT.out] at h9; rw [h9]; exact HF2.out⟩)
end
end Go.Proofs.Ytckoapfmfpmdgaa

namespace Go.Proofs.Ytckoapfmfpmdgaa
open Go.ChangeShapes Go.WideShapes Go.ChangeAt Go.RowKit Go.Joins
set_option linter.unusedVariables false
set_option linter.unusedSimpArgs false

/-- What Close does. -/
def CloP (c : Cs) (fd i fl : Nat) (c' : Cs) : Prop := c' = { c with d := setM c.d fd none } ∨ ((∀ q, setM c.d fd none q ≠ some i) ∧ FgP { c with d := setM c.d fd none, o := setM c.o i none } fl c')
section
variable {T : TP} {W : World} {F0 Ft : Nat → Prop} {w w' : World} {g : Nat} {a : Addr} {fb ob db : Nat} {c : Cs}
set_option maxRecDepth 100000 in
set_option maxHeartbeats 2000000 in
theorem zclose_none (C : TreeC T) (h : Fi T W F0 Ft w g a fb ob db c) {fd : Nat} (hf : fd ≤ 65535) (hd : c.d fd = none) : Calls Try.prog 42 #[.pointer (some ⟨g, 0, none⟩), .int .u16 (fd : Int)] w fun e w' => e = .returned (.int .u16 65289) ∧ Gw w w' := by
  have OP := zopened_any C h hf
  rw [hd] at OP
  simp only [opdV] at OP
  have hn : ∀ b w, (Op.unary .not (.bool b)).run Try.prog w = .ok (.bool (!b)) w := fun _ _ => rfl
  clear h hd
  go_enter Try.func42, Try.ntmps42
  go_wp2_with (go_at_call 76; (with_reducible refine OP.mono ?_); rintro e w1 ⟨rfl, G1⟩)
  go_ret
  exact ⟨rfl, G1⟩
set_option maxRecDepth 100000 in
set_option maxHeartbeats 4000000 in
theorem zclose_some (C : TreeC T) (h : Fi T W F0 Ft w g a fb ob db c) {fd i fl at_ : Nat} (hf : fd ≤ 65535) (hd : c.d fd = some i) (ho : c.o i = some (fl, at_)) (hi : i < 1000001) (hfl : fl < 1000001) : Calls Try.prog 42 #[.pointer (some ⟨g, 0, none⟩), .int .u16 (fd : Int)] w fun e w' => e = .returned (.int .u16 0) ∧ ∃ c', Fi T W F0 Ft w' g a fb ob db c' ∧ CloP c fd i fl c' := by
  have OP := zopened_any C h hf
  rw [hd] at OP
  simp only [opdV] at OP
  have hn : ∀ b w, (Op.unary .not (.bool b)).run Try.prog w = .ok (.bool (!b)) w := fun _ _ => rfl
  have HH := Lib.hid h
  have HO := Lib.hid ho
  have HI := Lib.hid hi
  have HFL := Lib.hid hfl
  have HFD := Lib.hid hf
  clear h hd ho hi hfl hf
  go_enter Try.func42, Try.ntmps42
  go_upto_region 4 with (go_at_call 76; (with_reducible refine OP.mono ?_); rintro e w1 ⟨rfl, G1⟩)
  have H1 := HH.out.on C G1
  have k3 : w1.cell? ⟨g, 3, none⟩ = some (.map (some db)) := H1.hd.cell 3
  go_upto_region 5 with (at_delete; refine wp_delete_num rfl _ _ tMD tU rfl .u16 _ uU Try.underlying109 db _ rfl H1.dm fd (wfU HFD.out) rfl ?_; intro w2 hn2 ht2)
  have H2 := Lib.hid (H1.turnd C ht2 (x := none) hn2)
  clear k3 ht2 hn2 H1 G1
  have k3 : w2.cell? ⟨g, 3, none⟩ = some (.map (some db)) := H2.out.hd.cell 3
  obtain ⟨nn, D, hown, hM⟩ := H2.out.dm
  have HM := Lib.hid hM
  clear hM
  go_wp2_with (first
    | (at_range; refine wpList_range_own _ rfl _ tMD rfl tU tI (Maps.int_keyed uU) Try.underlying109 idR db nn D rfl hown ?_; intro w0 hrg0 hg0 hs0)
    | go_in)
  (try go_frame)
  have HG0 : Hid (Gw w2 w0) := (Gw.refl _).grown hg0 (fun k hk => by cases hk)
  have HR0 := Lib.hid hrg0
  clear hg0 hs0 k3 hrg0 hown
  go_loopw [] (fun wr => ∃ (left : Lit → Bool) (cnt : Nat), Hid (wr.ranges Try.prog tU idR db w2.heap.size nn D left cnt) ∧ Hid (∀ k : Nat, Maps.has D (.int .u16 (k : Int)) = true → left (.int .u16 (k : Int)) = false → setM c.d fd none k ≠ some i) ∧ Hid (Gw w2 wr)) (fun wr => wr.rangeLeft db w2.heap.size)
  case atStart => exact ⟨_, _, HR0.out, fun k h1 h2 => (by rw [h1] at h2; cases h2), HG0.out⟩
  case round =>
    obtain ⟨left, cnt, HR, HS, HG⟩ := hrel
    go_wp2_with (first
      | (at_next; refine wpList_next_num _ rfl _ rfl tU .u16 uU db w2.heap.size _ D left cnt _ HM.out rfl HR.out ?_ ?_)
      | go_in)
    · intro hl0
      have HX : Hid (∀ q, setM c.d fd none q ≠ some i) := fun q hq => HS.out q ((HM.out.at_ q (numV i) (by simp [hq])).1) (hl0 _) hq
      clear hl0
      have H3 := Lib.hid (H2.out.on C HG.out)
      have k2 : wr.cell? ⟨g, 2, none⟩ = some (.map (some ob)) := H3.out.hd.cell 2
      have LO := H3.out.looko (k := i) (by have := HI.out; omega)
      simp only at LO
      rw [HO.out] at LO
      replace LO : _ = Result.ok (Value.agg #[.int .i64 (fl : Int), .int .i64 (at_ : Int)]) wr := LO
      go_upto_region 11 with fail
      have HV := Has.new wr 124 #[.int .i64 (fl : Int), .int .i64 (at_ : Int)]
      have GV : Hid (Gw wr (wr.alloc (.cells #[.int .i64 (fl : Int), .int .i64 (at_ : Int)] 124))) := Gw.alloc _ _
      have HBX := Lib.hid (H3.out.box C)
      clear k2 LO
      generalize wr.heap.size = op at *
      generalize (wr.alloc (.cells #[.int .i64 (fl : Int), .int .i64 (at_ : Int)] 124)) = V at *
      have HF := Lib.hid (H3.out.on C GV.out)
      have k2 : V.cell? ⟨g, 2, none⟩ = some (.map (some ob)) := HF.out.hd.cell 2
      have HV' := Lib.hid HV
      clear HV
      go_upto_region 12 with (at_delete; refine wp_delete_num rfl _ _ tMO tI rfl .i64 _ uI Try.underlying108 ob _ rfl HF.out.om i (wfI (by have := HI.out; omega)) rfl ?_; intro w4 hn4 ht4)
      have HF4 := Lib.hid (HF.out.turno C ht4 (x := none) hn4)
      have X4 := HV'.out.same (turn_block ht4 HV'.out.lt (fun e => HBX.out (by rw [e]; exact .inr (.inr (.inl rfl)))))
      obtain ⟨o0, o1⟩ := box2 X4
      have FG := zforget_any C HF4.out (n := fl) (by have := HFL.out; omega)
      clear hn4 ht4 X4 k2
      go_wp2_with (go_at_call 79; (with_reducible refine FG.mono ?_); rintro e w5 ⟨rfl, HP⟩; replace HP := Lib.hid HP)
      go_ret
      obtain ⟨c', h1, h2⟩ := HP.out
      exact ⟨rfl, c', h1, .inr ⟨HX.out, h2⟩⟩
    · intro q v w3 cnt1 x hx hv hlk hrg1 hlt hg1 hs1 hen
      subst hv
      have HXQ := Lib.hid hx
      have HR1 := Lib.hid hrg1
      have HLT := Lib.hid hlt
      have HG1 : Hid (Gw w2 w3) := HG.out.grown hg1 (fun k hk => by cases hk; exact Nat.le_refl _)
      clear hx hlk hrg1 hlt hg1 hs1
      by_cases he : x = i
      · subst he
        go_wp2
        go_ret
        exact ⟨rfl, _, H2.out.on C HG1.out, .inl rfl⟩
      · have he2 : ((x : Int) == (i : Int)) = false := beq_false_of_ne (by omega)
        have HE := Lib.hid he
        clear he
        go_wp2
        go_roundw
        case rel =>
          refine ⟨_, _, HR1.out, fun k hk hl hy => ?_, HG1.out⟩
          cases hl' : left (.int .u16 (k : Int)) with
          | false => exact HS.out k hk hl' hy
          | true =>
            rw [hl'] at hl
            simp at hl
            obtain rfl := lit_inj (WideAt.sameKey_eq hl)
            rw [HXQ.out] at hy
            exact HE.out (Option.some.inj hy)
        case measure =>
          show _ < _
          rw [HR1.out.left_eq, HR.out.left_eq]; exact HLT.out
end
end Go.Proofs.Ytckoapfmfpmdgaa
