/-
  Parts of the proof, joined: FzI, FzJ.
-/
import Derived.Test.YtckoapfmfpmdgaaMp16
import Derived.Deep.DeepCutAuto
import Derived.Lib.SliceRun
import Derived.Laws.CopyRow

namespace Go.Proofs.Ytckoapfmfpmdgaa
open Go.ChangeShapes Go.WideShapes Go.ChangeAt Go.RowKit Go.Joins
set_option linter.unusedVariables false
set_option linter.unusedSimpArgs false

section
variable {T : TP} {W : World} {F0 Ft : Nat → Prop} {w w' : World} {g : Nat} {a : Addr} {fb ob db : Nat} {c : Cs}
theorem run_fsize (x0 x1 x2 x3 x4 x5 x6 x7 x8 x9 : Value) (w : World) : (Instr.field 114 (.agg #[x0, x1, x2, x3, x4, x5, x6, x7, x8, x9]) 1).run Try.prog w = .ok x8 w := by kernel_rfl
theorem box2 {w : World} {g : Nat} {t : TypeId} {x0 x1 : Value} (h : Has w g t #[x0, x1]) : w.cell? ⟨g, 0, none⟩ = some x0 ∧ w.cell? ⟨g, 1, none⟩ = some x1 := ⟨h.cell 0, h.cell 1⟩
theorem u16_in {n : Nat} (h : n ≤ 65535) : IntKind.u16.wrap (n : Int) = n := by
  simp only [IntKind.wrap, IntKind.bits, IntKind.signed]
  simp
  omega
theorem i64_in {n : Nat} (h : n ≤ 65535) : IntKind.i64.wrap (n : Int) = n := by
  simp only [IntKind.wrap, IntKind.bits, IntKind.signed]
  simp
  omega
set_option maxRecDepth 100000 in
set_option maxHeartbeats 2000000 in
theorem zsize_none (C : TreeC T) (h : Fi T W F0 Ft w g a fb ob db c) {fd : Nat} (hf : fd ≤ 65535) (hd : c.d fd = none) : Calls Try.prog 40 #[.pointer (some ⟨g, 0, none⟩), .int .u16 (fd : Int)] w fun e w' => e = .returned (.int .u16 65289) ∧ Gw w w' := by
  have OP := zopened_any C h hf
  rw [hd] at OP
  simp only [opdV] at OP
  have hn : ∀ b w, (Op.unary .not (.bool b)).run Try.prog w = .ok (.bool (!b)) w := fun _ _ => rfl
  clear h hd
  go_enter Try.func40, Try.ntmps40
  go_wp2_with (go_at_call 76; (with_reducible refine OP.mono ?_); rintro e w1 ⟨rfl, G1⟩)
  go_ret
  exact ⟨rfl, G1⟩
set_option maxRecDepth 100000 in
set_option maxHeartbeats 2000000 in
theorem zsize_some (C : TreeC T) (h : Fi T W F0 Ft w g a fb ob db c) {fd i fl at_ : Nat} (hf : fd ≤ 65535) (hd : c.d fd = some i) (ho : c.o i = some (fl, at_)) (hi : i < 1000001) {x : Fil} (hx : c.f fl = some x) (hfl : fl < 1000001) (hn8 : x.n ≤ 8) : Calls Try.prog 40 #[.pointer (some ⟨g, 0, none⟩), .int .u16 (fd : Int)] w fun e w' => e = .returned (.int .u16 (x.n : Int)) ∧ Gw w w' := by
  have FS := run_fsize
  obtain ⟨b0, b1, b2, b3, b4, b5, b6, b7, he⟩ := fil8 (h.l8 fl x hx)
  obtain ⟨xb, xn, xo⟩ := x
  simp only at he hn8
  subst he
  have HX := Lib.hid hx
  have HFL : Hid (fl ≤ 9223372036854775807) := by show _ ≤ _; omega
  have HFL1 := Lib.hid hfl
  have HN8 := Lib.hid hn8
  clear hx hfl
  have hw := u16_in (n := xn) (by omega)
  clear hn8
  have OP := zopened_any C h hf
  rw [hd] at OP
  simp only [opdV] at OP
  have hn : ∀ b w, (Op.unary .not (.bool b)).run Try.prog w = .ok (.bool (!b)) w := fun _ _ => rfl
  have HH := Lib.hid h
  have HO := Lib.hid ho
  have HI9 : Hid (i ≤ 9223372036854775807) := by show _ ≤ _; omega
  have HI := Lib.hid hi
  have HHS := Lib.hid h.ch.size
  clear h hd ho hi hf
  go_enter Try.func40, Try.ntmps40
  go_upto_region 5 with (go_at_call 76; (with_reducible refine OP.mono ?_); rintro e w1 ⟨rfl, G1⟩; have H1 := HH.out.on C G1; have c2 : w1.cell? ⟨g, 2, none⟩ = some (.map (some ob)) := H1.hd.cell 2; have LO := H1.looko (k := i) HI9.out; rw [HO.out] at LO; replace LO : _ = Result.ok (Value.agg #[.int .i64 (fl : Int), .int .i64 (at_ : Int)]) w1 := LO; replace H1 := Lib.hid H1)
  have HV := Has.new w1 124 #[.int .i64 (fl : Int), .int .i64 (at_ : Int)]
  have GV : Hid (Gw w1 (w1.alloc (.cells #[.int .i64 (fl : Int), .int .i64 (at_ : Int)] 124))) := Gw.alloc _ _
  have HBX := Lib.hid (H1.out.box C)
  have HSZ : Hid (W.heap.size ≤ w1.heap.size) := Nat.le_trans HHS.out G1.size
  have HG1 := Lib.hid G1
  clear c2 LO G1
  generalize w1.heap.size = op at *
  generalize (w1.alloc (.cells #[.int .i64 (fl : Int), .int .i64 (at_ : Int)] 124)) = V at *
  have HF := Lib.hid (H1.out.on C GV.out)
  obtain ⟨o0, o1⟩ := box2 HV
  have L := (HF.out.drew C).lookf (k := fl) HFL.out
  rw [HX.out] at L
  replace L : _ = Result.ok (Value.agg #[ubV b0, ubV b1, ubV b2, ubV b3, ubV b4, ubV b5, ubV b6, ubV b7, .int .i64 (xn : Int), .bool xo]) V.drew := L
  have c1 : V.cell? ⟨g, 1, none⟩ = some (.map (some fb)) := HF.out.hd.cell 1
  go_region
  go_wp2
  go_ret
  exact ⟨rfl, (HG1.out.trans GV.out).drew⟩
set_option maxRecDepth 100000 in
set_option maxHeartbeats 2000000 in
theorem zseek_none (C : TreeC T) (h : Fi T W F0 Ft w g a fb ob db c) {fd : Nat} (hf : fd ≤ 65535) (hd : c.d fd = none) (n : Nat) : Calls Try.prog 36 #[.pointer (some ⟨g, 0, none⟩), .int .u16 (fd : Int), .int .u16 (n : Int)] w fun e w' => e = .returned (.int .u16 65289) ∧ Gw w w' := by
  have OP := zopened_any C h hf
  rw [hd] at OP
  simp only [opdV] at OP
  have hn : ∀ b w, (Op.unary .not (.bool b)).run Try.prog w = .ok (.bool (!b)) w := fun _ _ => rfl
  clear h hd
  go_enter Try.func36, Try.ntmps36
  go_wp2_with (go_at_call 76; (with_reducible refine OP.mono ?_); rintro e w1 ⟨rfl, G1⟩)
  go_ret
  exact ⟨rfl, G1⟩
set_option maxRecDepth 100000 in
set_option maxHeartbeats 2000000 in
theorem zseek_big (C : TreeC T) (h : Fi T W F0 Ft w g a fb ob db c) {fd i : Nat} (hf : fd ≤ 65535) (hd : c.d fd = some i) {n : Nat} (hn : 255 < n) : Calls Try.prog 36 #[.pointer (some ⟨g, 0, none⟩), .int .u16 (fd : Int), .int .u16 (n : Int)] w fun e w' => e = .returned (.int .u16 65302) ∧ Gw w w' := by
  have OP := zopened_any C h hf
  rw [hd] at OP
  simp only [opdV] at OP
  have t0 : decide ((255 : Int) < (n : Int)) = true := decide_eq_true (by omega)
  clear hn
  have hn : ∀ b w, (Op.unary .not (.bool b)).run Try.prog w = .ok (.bool (!b)) w := fun _ _ => rfl
  clear h hd
  go_enter Try.func36, Try.ntmps36
  go_wp2_with (go_at_call 76; (with_reducible refine OP.mono ?_); rintro e w1 ⟨rfl, G1⟩)
  go_ret
  exact ⟨rfl, G1⟩
set_option maxRecDepth 100000 in
set_option maxHeartbeats 2000000 in
theorem zseek_some (C : TreeC T) (h : Fi T W F0 Ft w g a fb ob db c) {fd i fl at_ : Nat} (hf : fd ≤ 65535) (hd : c.d fd = some i) (ho : c.o i = some (fl, at_)) (hi : i < 1000001) (hb : Bnd c) {n : Nat} (hn : n ≤ 255) : Calls Try.prog 36 #[.pointer (some ⟨g, 0, none⟩), .int .u16 (fd : Int), .int .u16 (n : Int)] w fun e w' => e = .returned (.int .u16 (n : Int)) ∧ Fi T W F0 Ft w' g a fb ob db { c with o := setM c.o i (some (fl, n)) } := by
  have t0 : decide ((255 : Int) < (n : Int)) = false := decide_eq_false (by omega)
  have hw := i64_in (n := n) (by omega)
  have HB := Lib.hid hb
  clear hn hb
  have OP := zopened_any C h hf
  rw [hd] at OP
  simp only [opdV] at OP
  have hn : ∀ b w, (Op.unary .not (.bool b)).run Try.prog w = .ok (.bool (!b)) w := fun _ _ => rfl
  have HH := Lib.hid h
  have HO := Lib.hid ho
  have HI9 : Hid (i ≤ 9223372036854775807) := by show _ ≤ _; omega
  have HI := Lib.hid hi
  have HHS := Lib.hid h.ch.size
  clear h hd ho hi hf
  go_enter Try.func36, Try.ntmps36
  go_upto_region 8 with (go_at_call 76; (with_reducible refine OP.mono ?_); rintro e w1 ⟨rfl, G1⟩; have H1 := HH.out.on C G1; have c2 : w1.cell? ⟨g, 2, none⟩ = some (.map (some ob)) := H1.hd.cell 2; have LO := H1.looko (k := i) HI9.out; rw [HO.out] at LO; replace LO : _ = Result.ok (Value.agg #[.int .i64 (fl : Int), .int .i64 (at_ : Int)]) w1 := LO; replace H1 := Lib.hid H1)
  have HV := Has.new w1 124 #[.int .i64 (fl : Int), .int .i64 (n : Int)]
  have GV : Hid (Gw w1 (w1.alloc (.cells #[.int .i64 (fl : Int), .int .i64 (n : Int)] 124))) := Gw.alloc _ _
  have HBX := Lib.hid (H1.out.box C)
  have HSZ : Hid (W.heap.size ≤ w1.heap.size) := Nat.le_trans HHS.out G1.size
  have HG1 := Lib.hid G1
  clear c2 LO G1
  generalize w1.heap.size = op at *
  generalize (w1.alloc (.cells #[.int .i64 (fl : Int), .int .i64 (n : Int)] 124)) = V at *
  have HF := Lib.hid (H1.out.on C GV.out)
  obtain ⟨o0, o1⟩ := box2 HV
  obtain ⟨w2, hup, hn2, ht2⟩ := (HF.out.drew C).storeo HB.out HI.out (fl, n)
  replace hup : (Instr.mapUpdate tMO (.map (some ob)) (.int .i64 (i : Int)) (.agg #[.int .i64 (fl : Int), .int .i64 (n : Int)])).run Try.prog V.drew = .ok () w2 := hup
  have HF2 := Lib.hid ((HF.out.drew C).turno C ht2 (x := some (fl, n)) hn2)
  have c2 : V.cell? ⟨g, 2, none⟩ = some (.map (some ob)) := HF.out.hd.cell 2
  clear ht2 hn2
  go_region_law (fail)
  all_goals (
    go_wp2
    go_ret
    exact ⟨rfl, HF2.out⟩)
set_option maxRecDepth 100000 in
set_option maxHeartbeats 2000000 in
theorem ztwin_none (C : TreeC T) (h : Fi T W F0 Ft w g a fb ob db c) {fd : Nat} (hf : fd ≤ 65535) (hd : c.d fd = none) : Calls Try.prog 34 #[.pointer (some ⟨g, 0, none⟩), .int .u16 (fd : Int)] w fun e w' => e = .returned (.int .u16 65289) ∧ Gw w w' := by
  have OP := zopened_any C h hf
  rw [hd] at OP
  simp only [opdV] at OP
  have hn : ∀ b w, (Op.unary .not (.bool b)).run Try.prog w = .ok (.bool (!b)) w := fun _ _ => rfl
  clear h hd
  go_enter Try.func34, Try.ntmps34
  go_wp2_with (go_at_call 76; (with_reducible refine OP.mono ?_); rintro e w1 ⟨rfl, G1⟩)
  go_ret
  exact ⟨rfl, G1⟩
set_option maxRecDepth 100000 in
set_option maxHeartbeats 2000000 in
theorem ztwin_some (C : TreeC T) (h : Fi T W F0 Ft w g a fb ob db c) {fd i : Nat} (hf : fd ≤ 65535) (hd : c.d fd = some i) (hb : Bnd c) : Calls Try.prog 34 #[.pointer (some ⟨g, 0, none⟩), .int .u16 (fd : Int)] w fun e w' => (∃ k : Nat, k < 4 ∧ c.d k = none ∧ (∀ j, j < k → c.d j ≠ none) ∧ e = .returned (.int .u16 (k : Int)) ∧ Fi T W F0 Ft w' g a fb ob db { c with d := setM c.d k (some i) }) ∨ ((∀ j, j < 4 → c.d j ≠ none) ∧ e = .returned (.int .u16 65304) ∧ Fi T W F0 Ft w' g a fb ob db c) := by
  have OP := zopened_any C h hf
  rw [hd] at OP
  simp only [opdV] at OP
  have hn : ∀ b w, (Op.unary .not (.bool b)).run Try.prog w = .ok (.bool (!b)) w := fun _ _ => rfl
  have HH := Lib.hid h
  have HB := Lib.hid hb
  clear h hd hb
  go_enter Try.func34, Try.ntmps34
  go_upto_region 4 with (go_at_call 76; (with_reducible refine OP.mono ?_); rintro e w1 ⟨rfl, G1⟩; have FR := zfree_any C (HH.out.on C G1))
  go_wp2_with fail
  go_at_call 74
  refine FR.mono ?_
  rintro e w2 ⟨hfr, G2⟩
  have H2 := Lib.hid (HH.out.on C (G1.trans G2))
  clear G1 G2
  rcases hfr with ⟨k, hk, h0, hall, rfl⟩ | ⟨hall, rfl⟩
  · have c3 : w2.cell? ⟨g, 3, none⟩ = some (.map (some db)) := H2.out.hd.cell 3
    obtain ⟨w3, hup, hn3, ht3⟩ := H2.out.stored HB.out hk i
    have HF3 := Lib.hid (H2.out.turnd C ht3 (x := some i) hn3)
    have HK := Lib.hid hk
    have H0 := Lib.hid h0
    have HA := Lib.hid hall
    clear ht3 hn3 hk h0 hall FR
    go_wp2
    go_ret
    exact .inl ⟨k, HK.out, H0.out, HA.out, rfl, HF3.out⟩
  · have HA := Lib.hid hall
    clear hall FR
    go_wp2
    go_ret
    exact .inr ⟨HA.out, rfl, H2.out⟩
end
end Go.Proofs.Ytckoapfmfpmdgaa

namespace Go.Proofs.Ytckoapfmfpmdgaa
open Go.ChangeShapes Go.WideShapes Go.ChangeAt Go.RowKit Go.Joins
set_option linter.unusedVariables false
set_option linter.unusedSimpArgs false

section
variable {T : TP} {W : World} {F0 Ft : Nat → Prop} {w w' : World} {g : Nat} {a : Addr} {fb ob db : Nat} {c : Cs}
theorem has_cells {t : TypeId} (g : Nat) : ∀ (vs : List Value) (o : Nat) (w : World) (l : List Value), Has w g t l.toArray → o + vs.length ≤ l.length → Has (w.setCells g o vs) g t (l.take o ++ vs ++ l.drop (o + vs.length)).toArray
  | [], o, w, l, h, _ => by simpa [World.setCells] using h
  | v :: vs, o, w, l, h, hl => by
    have h1 : Has (w.setCell ⟨g, o, none⟩ v) g t (l.set o v).toArray := by have := h.put o v; rwa [List.setIfInBounds_toArray] at this
    have := has_cells g vs (o + 1) _ (l.set o v) h1 (by simp at hl ⊢; omega)
    show Has ((w.setCell ⟨g, o, none⟩ v).setCells g (o + 1) vs) g t _
    rw [show l.take o ++ v :: vs ++ l.drop (o + (v :: vs).length) = (l.set o v).take (o + 1) ++ vs ++ (l.set o v).drop (o + 1 + vs.length) from ?_]
    · exact this
    · simp at hl
      refine List.ext_getElem? fun j => ?_
      simp only [List.getElem?_append, List.getElem?_take, List.getElem?_drop, List.getElem?_set, List.length_append, List.length_take, List.length_drop, List.length_set, List.length_cons, List.getElem?_cons]
      repeat' split
      all_goals (first | rfl | omega | (congr 1; omega) | skip)
theorem but_cells (g : Nat) : ∀ (vs : List Value) (o : Nat) (w : World), But g w (w.setCells g o vs)
  | [], o, w => ⟨rfl, rfl, Nat.le_refl _, fun _ _ _ => rfl⟩
  | v :: vs, o, w => by
    have h1 := But.set g w o v
    have h2 := but_cells g vs (o + 1) (w.setCell ⟨g, o, none⟩ v)
    exact ⟨h2.os.trans h1.os, h2.output.trans h1.output, Nat.le_trans h1.size h2.size, fun k hk hn => (h2.block k (Nat.lt_of_lt_of_le hk h1.size) hn).trans (h1.block k hk hn)⟩
theorem box8 {w : World} {g : Nat} {t : TypeId} {x0 x1 x2 x3 x4 x5 x6 x7 x8 x9 : Value} (h : Has w g t #[x0, x1, x2, x3, x4, x5, x6, x7, x8, x9]) : w.cell? ⟨g, 8, none⟩ = some x8 ∧ w.frozen? ⟨g, 8, none⟩ = false := ⟨h.cell 8, h.free 8⟩
theorem clear_run0 (w : World) (t ty : TypeId) (a : Addr) (c : Nat) {e : TypeId} (ht : Try.prog.underlying t = some (.slice e)) : (Builtin.clear_ #[t] ty #[.slice (some a) 0 c]).run Try.prog w = .ok (.tuple #[]) w := by
  simp [Builtin.clear_, run_underlying ht]
theorem zU8 (w : World) : (zeroValue 5).run Try.prog w = .ok (.int .u8 0) w := by kernel_rfl
theorem clear_run {w : World} {xp : Nat} {x : Fil} (hx : Has w xp 114 (filC x).toArray) (h8 : x.b.length = 8) {n : Nat} (hn : n < 8) (ty : TypeId) : ∃ w', (Builtin.clear_ #[52] ty #[.slice (some ⟨xp, n, none⟩) (8 - n) (8 - n)]).run Try.prog w = .ok (.tuple #[]) w' ∧ Has w' xp 114 (filC { x with b := x.b.take n ++ List.replicate (8 - n) 0 }).toArray ∧ But xp w w' := by
  have hlen : (filC x).length = 10 := by simp [filC, h8]
  have hc : ∀ j, j < 8 - n → (w.cell? ⟨xp, n + j, none⟩).isSome = true := fun j hj => by
    rw [hx.cell]
    have : n + j < (filC x).toArray.size := by simp [h8]; omega
    rw [Array.getElem?_eq_getElem this]; rfl
  have hr := Lib.run_clear_slice (P := Try.prog) w 52 5 ty (.int .u8 0) Try.underlying52 zU8 rfl rfl xp n (8 - n) (8 - n) (by omega) hc (fun j _ => hx.free _)
  refine ⟨_, hr, ?_, but_cells _ _ _ _⟩
  have h1 := has_cells xp (List.replicate (8 - n) (Value.int .u8 0)) n w (filC x) hx (by rw [List.length_replicate, hlen]; omega)
  rw [List.length_replicate, show n + (8 - n) = 8 by omega] at h1
  have e : filC { x with b := x.b.take n ++ List.replicate (8 - n) 0 } = (filC x).take n ++ List.replicate (8 - n) (Value.int .u8 0) ++ (filC x).drop 8 := by
    unfold filC
    rw [List.map_append, List.map_take, List.map_replicate, List.take_append_of_le_length (by simp [h8]; omega), List.drop_append_of_le_length (by simp [h8]), List.drop_of_length_le (by simp [h8])]
    rfl
  rw [e]; exact h1
/-- x := f.files[o.file]. -/
structure XP (T : TP) (W : World) (F0 Ft : Nat → Prop) (g : Nat) (a : Addr) (fb ob db : Nat) (c : Cs) (V : World) (op xp fl at_ : Nat) (x : Fil) (wx : World) : Prop where
  hx : Has wx xp 114 (filC x).toArray
  ho : Has wx op 124 #[.int .i64 (fl : Int), .int .i64 (at_ : Int)]
  fi : Fi T W F0 Ft wx g a fb ob db c
  nx : ¬ fF g fb ob db Ft xp
  no : ¬ fF g fb ob db Ft op
  ne : xp ≠ op
  gv : Gw V wx
  wx : W.heap.size ≤ xp
  wo : W.heap.size ≤ op
/-- The row xp has changed. -/
structure XQ (T : TP) (W : World) (F0 Ft : Nat → Prop) (g : Nat) (a : Addr) (fb ob db : Nat) (c : Cs) (op xp fl at_ : Nat) (wx : World) : Prop where
  ho : Has wx op 124 #[.int .i64 (fl : Int), .int .i64 (at_ : Int)]
  fi : Fi T W F0 Ft wx g a fb ob db c
  nx : ¬ fF g fb ob db Ft xp
  no : ¬ fF g fb ob db Ft op
  ne : xp ≠ op
  wx : W.heap.size ≤ xp
  wo : W.heap.size ≤ op
theorem XP.but {T : TP} (C : TreeC T) {W : World} {F0 Ft : Nat → Prop} {g : Nat} {a : Addr} {fb ob db : Nat} {c : Cs} {V : World} {op xp fl at_ : Nat} {x : Fil} {wx w' : World} (h : XP T W F0 Ft g a fb ob db c V op xp fl at_ x wx) (hB : But xp wx w') : XQ T W F0 Ft g a fb ob db c op xp fl at_ w' :=
  ⟨hB.has (fun e => h.ne e.symm) h.ho, h.fi.off C h.nx h.wx hB, h.nx, h.no, h.ne, h.wx, h.wo⟩
theorem XQ.but {T : TP} (C : TreeC T) {W : World} {F0 Ft : Nat → Prop} {g : Nat} {a : Addr} {fb ob db : Nat} {c : Cs} {op xp fl at_ : Nat} {wx w' : World} (h : XQ T W F0 Ft g a fb ob db c op xp fl at_ wx) (hB : But xp wx w') : XQ T W F0 Ft g a fb ob db c op xp fl at_ w' :=
  ⟨hB.has (fun e => h.ne e.symm) h.ho, h.fi.off C h.nx h.wx hB, h.nx, h.no, h.ne, h.wx, h.wo⟩
theorem XP.mk0 {T : TP} (C : TreeC T) {W : World} {F0 Ft : Nat → Prop} {g : Nat} {a : Addr} {fb ob db : Nat} {c : Cs} {V : World} {op fl at_ : Nat} {x : Fil} (HF : Fi T W F0 Ft V g a fb ob db c) (HV : Has V op 124 #[.int .i64 (fl : Int), .int .i64 (at_ : Int)]) (no : ¬ fF g fb ob db Ft op) (wo : W.heap.size ≤ op) : XP T W F0 Ft g a fb ob db c V op V.heap.size fl at_ x (V.alloc (.cells (filC x).toArray 114)).drew :=
  ⟨(Has.new _ _ _).on (Gw.refl _).drew, HV.on (Gw.alloc _ _).drew, HF.on C (Gw.alloc _ _).drew, HF.box C, no, fun e => by have := HV.lt; omega, (Gw.alloc _ _).drew, Nat.le_trans wo (Nat.le_of_lt HV.lt), wo⟩
set_option maxRecDepth 100000 in
set_option maxHeartbeats 2000000 in
theorem ztrunc_none (C : TreeC T) (h : Fi T W F0 Ft w g a fb ob db c) {fd : Nat} (hf : fd ≤ 65535) (hd : c.d fd = none) (n : Nat) : Calls Try.prog 41 #[.pointer (some ⟨g, 0, none⟩), .int .u16 (fd : Int), .int .u16 (n : Int)] w fun e w' => e = .returned (.int .u16 65289) ∧ Gw w w' := by
  have OP := zopened_any C h hf
  rw [hd] at OP
  simp only [opdV] at OP
  have hn : ∀ b w, (Op.unary .not (.bool b)).run Try.prog w = .ok (.bool (!b)) w := fun _ _ => rfl
  clear h hd
  go_enter Try.func41, Try.ntmps41
  go_wp2_with (go_at_call 76; (with_reducible refine OP.mono ?_); rintro e w1 ⟨rfl, G1⟩)
  go_ret
  exact ⟨rfl, G1⟩
set_option maxRecDepth 100000 in
set_option maxHeartbeats 2000000 in
theorem ztrunc_big (C : TreeC T) (h : Fi T W F0 Ft w g a fb ob db c) {fd i : Nat} (hf : fd ≤ 65535) (hd : c.d fd = some i) {n : Nat} (hn : 8 < n) : Calls Try.prog 41 #[.pointer (some ⟨g, 0, none⟩), .int .u16 (fd : Int), .int .u16 (n : Int)] w fun e w' => e = .returned (.int .u16 65302) ∧ Gw w w' := by
  have OP := zopened_any C h hf
  rw [hd] at OP
  simp only [opdV] at OP
  have t0 : decide ((8 : Int) < (n : Int)) = true := decide_eq_true (by omega)
  clear hn
  have hn : ∀ b w, (Op.unary .not (.bool b)).run Try.prog w = .ok (.bool (!b)) w := fun _ _ => rfl
  clear h hd
  go_enter Try.func41, Try.ntmps41
  go_wp2_with (go_at_call 76; (with_reducible refine OP.mono ?_); rintro e w1 ⟨rfl, G1⟩)
  go_ret
  exact ⟨rfl, G1⟩
set_option maxRecDepth 100000 in
set_option maxHeartbeats 2000000 in
theorem ztrunc_some (C : TreeC T) (h : Fi T W F0 Ft w g a fb ob db c) {fd i fl at_ : Nat} (hf : fd ≤ 65535) (hd : c.d fd = some i) (ho : c.o i = some (fl, at_)) (hi : i < 1000001) {x : Fil} (hx : c.f fl = some x) (hfl : fl < 1000001) (hn8 : x.n ≤ 8) (hb : Bnd c) {n : Nat} (hn : n ≤ 8) : Calls Try.prog 41 #[.pointer (some ⟨g, 0, none⟩), .int .u16 (fd : Int), .int .u16 (n : Int)] w fun e w' => e = .returned (.int .u16 0) ∧ Fi T W F0 Ft w' g a fb ob db { c with f := setM c.f fl (some ⟨x.b.take n ++ List.replicate (8 - n) 0, n, x.out⟩) } := by
  have t0 : decide ((8 : Int) < (n : Int)) = false := decide_eq_false (by omega)
  have HB := Lib.hid hb
  have hw := i64_in (n := n) (by omega)
  have HN := Lib.hid hn
  clear hn hb
  obtain ⟨b0, b1, b2, b3, b4, b5, b6, b7, he⟩ := fil8 (h.l8 fl x hx)
  obtain ⟨xb, xn, xo⟩ := x
  simp only at he hn8
  subst he
  have HX := Lib.hid hx
  have HFL : Hid (fl ≤ 9223372036854775807) := by show _ ≤ _; omega
  have HFL1 := Lib.hid hfl
  have HN8 := Lib.hid hn8
  clear hx hfl
  have OP := zopened_any C h hf
  rw [hd] at OP
  simp only [opdV] at OP
  have hn : ∀ b w, (Op.unary .not (.bool b)).run Try.prog w = .ok (.bool (!b)) w := fun _ _ => rfl
  have HH := Lib.hid h
  have HO := Lib.hid ho
  have HI9 : Hid (i ≤ 9223372036854775807) := by show _ ≤ _; omega
  have HI := Lib.hid hi
  have HHS := Lib.hid h.ch.size
  clear h hd ho hi hf hn8
  go_enter Try.func41, Try.ntmps41
  go_upto_region 7 with (go_at_call 76; (with_reducible refine OP.mono ?_); rintro e w1 ⟨rfl, G1⟩; have H1 := HH.out.on C G1; have c2 : w1.cell? ⟨g, 2, none⟩ = some (.map (some ob)) := H1.hd.cell 2; have LO := H1.looko (k := i) HI9.out; rw [HO.out] at LO; replace LO : _ = Result.ok (Value.agg #[.int .i64 (fl : Int), .int .i64 (at_ : Int)]) w1 := LO; replace H1 := Lib.hid H1)
  have HV := Has.new w1 124 #[.int .i64 (fl : Int), .int .i64 (at_ : Int)]
  have GV : Hid (Gw w1 (w1.alloc (.cells #[.int .i64 (fl : Int), .int .i64 (at_ : Int)] 124))) := Gw.alloc _ _
  have HBX := Lib.hid (H1.out.box C)
  have HSZ : Hid (W.heap.size ≤ w1.heap.size) := Nat.le_trans HHS.out G1.size
  have HG1 := Lib.hid G1
  clear c2 LO G1
  generalize w1.heap.size = op at *
  generalize (w1.alloc (.cells #[.int .i64 (fl : Int), .int .i64 (at_ : Int)] 124)) = V at *
  have HF := Lib.hid (H1.out.on C GV.out)
  obtain ⟨o0, o1⟩ := box2 HV
  have L := (HF.out.drew C).lookf (k := fl) HFL.out
  rw [HX.out] at L
  replace L : _ = Result.ok (Value.agg #[ubV b0, ubV b1, ubV b2, ubV b3, ubV b4, ubV b5, ubV b6, ubV b7, .int .i64 (xn : Int), .bool xo]) V.drew := L
  have c1 : V.cell? ⟨g, 1, none⟩ = some (.map (some fb)) := HF.out.hd.cell 1
  have GA : Gw V (V.alloc (.cells #[.int .u8 0, .int .u8 0, .int .u8 0, .int .u8 0, .int .u8 0, .int .u8 0, .int .u8 0, .int .u8 0, .int .i64 0, .bool false] 114)).drew := (Gw.alloc _ _).drew
  have o0a := GA.cell o0
  have c1a := GA.cell c1
  have La := (HF.out.on C GA).lookf (k := fl) HFL.out
  rw [HX.out] at La
  replace La : _ = Result.ok (Value.agg #[ubV b0, ubV b1, ubV b2, ubV b3, ubV b4, ubV b5, ubV b6, ubV b7, .int .i64 (xn : Int), .bool xo]) (V.alloc (.cells #[.int .u8 0, .int .u8 0, .int .u8 0, .int .u8 0, .int .u8 0, .int .u8 0, .int .u8 0, .int .u8 0, .int .i64 0, .bool false] 114)).drew := La
  clear GA
  go_cut [11] (fun sx wx => ∃ xp : Nat, sx = .pointer (some ⟨xp, 0, none⟩) ∧ Hid (XP T W F0 Ft g a fb ob db c V op xp fl at_ ⟨[b0, b1, b2, b3, b4, b5, b6, b7], xn, xo⟩ wx))
  case first =>
    go_region
    all_goals (
      go_wp2_with fail
      go_meet
      exact ⟨_, rfl, XP.mk0 C HF.out HV HBX.out HSZ.out⟩)
  case rest =>
    obtain ⟨xp, rfl, HXP⟩ := hcut
    clear L La c1 c1a o0 o0a o1 HV GV HF HG1 HSZ HBX
    go_upto_region 8 with fail
    have hn8 : (n : Int) ≤ 8 := by have := HN.out; omega
    go_cut [] (fun wx => Hid (Has wx xp 114 (filC ⟨([b0, b1, b2, b3, b4, b5, b6, b7].take n ++ List.replicate (8 - n) 0), xn, xo⟩).toArray ∧ But xp wc wx))
    case first =>
      by_cases h8 : n = 8
      · subst h8
        have RC := clear_run0 wc 52 0 ⟨xp, 0, none⟩ 0 Try.underlying52
        go_wp2_with fail
        go_meet
        exact ⟨HXP.out.hx, But.refl _ _⟩
      · obtain ⟨w3, RC, H3, B3⟩ := clear_run HXP.out.hx rfl (n := n) (by have := HN.out; omega) 0
        have HH3 := Lib.hid H3
        clear H3
        go_wp2_with fail
        go_meet
        exact ⟨HH3.out, B3⟩
    case rest =>
      have hl : ([b0, b1, b2, b3, b4, b5, b6, b7].take n ++ List.replicate (8 - n) (0 : UInt8)).length = 8 := by have := HN.out; simp; omega
      obtain ⟨c0, c1, c2, c3, c4, c5, c6, c7, he⟩ := fil8 (x := ⟨_, xn, xo⟩) hl
      simp only at he
      replace he := Lib.hid he
      clear hl hn8
      have HWD := hcut
      clear hcut
      rw [he.out] at HWD
      have X0 := HWD.out.1
      replace X0 : Has _ xp 114 #[ubV c0, ubV c1, ubV c2, ubV c3, ubV c4, ubV c5, ubV c6, ubV c7, .int .i64 (xn : Int), .bool xo] := X0
      have HXQ := Lib.hid (HXP.out.but C HWD.out.2)
      obtain ⟨x8, f8⟩ := box8 X0
      have HX0 := Lib.hid X0
      clear X0 HXP HWD
      go_upto_region 10 with fail
      have HV4 := Lib.hid (HX0.out.put 8 (.int .i64 (n : Int)))
      have HXR := Lib.hid (HXQ.out.but C (But.set xp _ 8 (.int .i64 (n : Int))))
      clear x8 f8 HXQ HX0
      generalize (World.setCell _ (⟨xp, 8, none⟩ : Addr) (.int .i64 (n : Int))) = V4 at *
      have X4 : Has V4 xp 114 #[ubV c0, ubV c1, ubV c2, ubV c3, ubV c4, ubV c5, ubV c6, ubV c7, .int .i64 (n : Int), .bool xo] := HV4.out
      obtain ⟨e0, e1, e2, e3, e4, e5, e6, e7, e8, e9⟩ := box10 X4
      obtain ⟨o0, o1⟩ := box2 HXR.out.ho
      have k1 : V4.cell? ⟨g, 1, none⟩ = some (.map (some fb)) := HXR.out.fi.hd.cell 1
      obtain ⟨w5, hup, hn5, ht5⟩ := (HXR.out.fi.drew C).storef HB.out HFL1.out ⟨[c0, c1, c2, c3, c4, c5, c6, c7], n, xo⟩
      replace hup : (Instr.mapUpdate tMF (.map (some fb)) (.int .i64 (fl : Int)) (.agg #[ubV c0, ubV c1, ubV c2, ubV c3, ubV c4, ubV c5, ubV c6, ubV c7, .int .i64 (n : Int), .bool xo])).run Try.prog V4.drew = .ok () w5 := hup
      have HF2 := Lib.hid ((HXR.out.fi.drew C).turnf C ht5 (x := some ⟨[c0, c1, c2, c3, c4, c5, c6, c7], n, xo⟩) (fun y hy => by cases hy; rfl) hn5)
      clear hn5 X4 HV4
      go_region_law (fail)
      all_goals (
        go_wp2
        go_ret
        exact ⟨rfl, by rw [he.out]; exact HF2.out⟩)
end
end Go.Proofs.Ytckoapfmfpmdgaa
