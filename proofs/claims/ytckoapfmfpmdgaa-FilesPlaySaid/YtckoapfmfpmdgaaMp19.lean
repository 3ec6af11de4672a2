/-
  Parts of the proof, joined: FzN, FzO, FzP.
-/
import Derived.Test.YtckoapfmfpmdgaaMp18

namespace Go.Proofs.Ytckoapfmfpmdgaa
open Go.ChangeShapes Go.WideShapes Go.ChangeAt Go.RowKit Go.Joins
set_option linter.unusedVariables false
set_option linter.unusedSimpArgs false

section
variable {T : TP} {W : World} {F0 Ft : Nat → Prop} {w w' : World} {g : Nat} {a : Addr} {fb ob db : Nat} {c : Cs}
set_option maxRecDepth 100000 in
set_option maxHeartbeats 2000000 in
theorem zopen_no (C : TreeC T) (h : Fi T W F0 Ft w g a fb ob db c) (t : TOk c.t) (p : ByteArray) (hp : p.size ≤ 140737488351232) (h0 : mrF c.t p.data.toList ≠ 0) : Calls Try.prog 33 #[.pointer (some ⟨g, 0, none⟩), .string p] w fun e w' => e = .returned (.int .u16 (mrF c.t p.data.toList)) ∧ ∃ Ft', Fi T W F0 Ft' w' g a fb ob db c := by
  have N := znone_any h
  have M : ∀ w1, Gw w w1 → _ := fun w1 G => zmay_any C (h.on C G) t p hp
  have HM := Lib.hid M
  generalize hr : mrF c.t p.data.toList = r at *
  have e0 : (r == 0) = false := beq_false_of_ne h0
  clear h hr h0 t hp M
  go_enter Try.func33, Try.ntmps33
  go_wp2_with (first
    | (go_at_call 72; (with_reducible refine N.mono ?_); rintro e w1 ⟨rfl, G1⟩; have M1 := HM.out w1 G1)
    | (go_at_call 73; (with_reducible refine M1.mono ?_); rintro e w2 ⟨rfl, H2⟩; replace H2 := Lib.hid H2))
  go_ret
  exact ⟨rfl, H2.out⟩
set_option maxRecDepth 100000 in
set_option maxHeartbeats 4000000 in
theorem zopen_any (C : TreeC T) (h : Fi T W F0 Ft w g a fb ob db c) (t : TOk c.t) (p : ByteArray) (hp : p.size ≤ 140737488351232) (h0 : mrF c.t p.data.toList = 0) {c2 : Cs} {fl : Nat} {rn rno : Int} (hb2 : Bnd c2) (hnx : c2.nx < 1000001) (hrn : rno = 0 → rn = (fl : Int))
    (RC : ∀ w1 Ft1, Fi T W F0 Ft1 w1 g a fb ob db c → Calls Try.prog 75 #[.pointer (some ⟨g, 0, none⟩), .string p] w1 fun e w' => e = .returned (.tuple #[.int .i64 rn, .int .u16 rno]) ∧ ∃ Ft', Fi T W F0 Ft' w' g a fb ob db c2) :
    Calls Try.prog 33 #[.pointer (some ⟨g, 0, none⟩), .string p] w fun e w' => ((∀ j, j < 4 → c.d j ≠ none) ∧ e = .returned (.int .u16 65304) ∧ ∃ Ft', Fi T W F0 Ft' w' g a fb ob db c) ∨
      ∃ k : Nat, k < 4 ∧ c.d k = none ∧ (∀ j, j < k → c.d j ≠ none) ∧ ((rno ≠ 0 ∧ e = .returned (.int .u16 rno) ∧ ∃ Ft', Fi T W F0 Ft' w' g a fb ob db c2) ∨ (rno = 0 ∧ e = .returned (.int .u16 (k : Int)) ∧ ∃ Ft', Fi T W F0 Ft' w' g a fb ob db { c2 with o := setM c2.o c2.nx (some (fl, 0)), d := setM c2.d k (some c2.nx), nx := c2.nx + 1 })) := by
  have N := znone_any h
  have HM : Hid (∀ w1, Gw w w1 → _) := fun w1 G => zmay_any C (h.on C G) t p hp
  have HRC := Lib.hid RC
  rw [h0] at HM
  clear h h0 t hp RC
  have HB2 := Lib.hid hb2
  have HNX := Lib.hid hnx
  have hwn : wrap64 ((c2.nx : Int) + 1) = ((c2.nx + 1 : Nat) : Int) := by rw [i64_wrap_in _ (by omega) (by omega)]; omega
  clear hb2 hnx
  go_enter Try.func33, Try.ntmps33
  go_upto_region 6 with (first
    | (go_at_call 72; (with_reducible refine N.mono ?_); rintro e w1 ⟨rfl, G1⟩; have M1 := HM.out w1 G1)
    | (go_at_call 73; (with_reducible refine M1.mono ?_); rintro e w2 ⟨rfl, H2⟩))
  obtain ⟨Ft2, H2⟩ := H2
  have FR := zfree_any C H2
  have HH2 := Lib.hid H2
  clear H2 M1 N G1
  go_wp2_with fail
  go_at_call 74
  refine FR.mono ?_
  rintro e w3 ⟨hfr, G3⟩
  have H3 := Lib.hid (HH2.out.on C G3)
  clear G3 FR
  rcases hfr with ⟨k, hk, hd0, hall, rfl⟩ | ⟨hall, rfl⟩
  · have HK : Hid (k < 4 ∧ c.d k = none ∧ ∀ j, j < k → c.d j ≠ none) := ⟨hk, hd0, hall⟩
    clear hk hd0 hall
    have R3 := HRC.out w3 Ft2 H3.out
    by_cases e0 : rno = 0
    · obtain rfl := hrn e0
      subst e0
      go_upto_region 12 with (go_at_call 75; (with_reducible refine R3.mono ?_); rintro e w4 ⟨rfl, H4⟩)
      obtain ⟨Ft4, H4⟩ := H4
      have k2 : w4.cell? ⟨g, 2, none⟩ = some (.map (some ob)) := H4.hd.cell 2
      have k4 : w4.cell? ⟨g, 4, none⟩ = some (.int .i64 (c2.nx : Int)) := H4.hd.cell 4
      obtain ⟨w5, hup, hn5, ht5⟩ := (H4.drew C).storeo HB2.out HNX.out (fl, 0)
      replace hup : (Instr.mapUpdate tMO (.map (some ob)) (.int .i64 (c2.nx : Int)) (.agg #[.int .i64 (fl : Int), .int .i64 0])).run Try.prog w4.drew = .ok () w5 := hup
      have H5 := Lib.hid ((H4.drew C).turno C ht5 (x := some (fl, 0)) hn5)
      have HB5 : Hid (Bnd { c2 with o := setM c2.o c2.nx (some (fl, 0)) }) := ⟨HB2.out.f, fun n x hx => by rcases setM_some hx with ⟨e, _⟩ | ⟨_, hx⟩; rw [e]; exact HNX.out; exact HB2.out.o n x hx, HB2.out.d⟩
      have k3 : w5.cell? ⟨g, 3, none⟩ = some (.map (some db)) := H5.out.hd.cell 3
      have k5 : w5.cell? ⟨g, 4, none⟩ = some (.int .i64 (c2.nx : Int)) := H5.out.hd.cell 4
      obtain ⟨w6, hup6, hn6, ht6⟩ := (H5.out.drew C).stored HB5.out HK.out.1 c2.nx
      replace hup6 : (Instr.mapUpdate tMD (.map (some db)) (.int .u16 (k : Int)) (.int .i64 (c2.nx : Int))).run Try.prog w5.drew = .ok () w6 := hup6
      have H6 := Lib.hid ((H5.out.drew C).turnd C ht6 (x := some c2.nx) hn6)
      have k6 : w6.cell? ⟨g, 4, none⟩ = some (.int .i64 (c2.nx : Int)) := H6.out.hd.cell 4
      have f6 := H6.out.hd.free 4
      have H7 := Lib.hid (H6.out.next C (c2.nx + 1))
      clear H4 hn5 ht5 hn6 ht6
      go_cut [] (fun wx => wx = w5)
      case first =>
        go_region_law (fail)
        all_goals (
          go_wp2_with fail
          go_meet
          rfl)
      case rest =>
        obtain rfl := hcut
        go_upto_region 13 with fail
        go_region_law (fail)
        all_goals (
          go_wp2
          go_ret
          exact .inr ⟨k, HK.out.1, HK.out.2.1, HK.out.2.2, ⟨rfl, Ft4, H7.out⟩⟩)
    · have e1 : (rno == 0) = false := beq_false_of_ne e0
      have HE := Lib.hid e0
      clear e0
      go_wp2_with (go_at_call 75; (with_reducible refine R3.mono ?_); rintro e w4 ⟨rfl, H4⟩; replace H4 := Lib.hid H4)
      go_ret
      exact .inr ⟨k, HK.out.1, HK.out.2.1, HK.out.2.2, .inl ⟨HE.out, rfl, H4.out⟩⟩
  · have HA := Lib.hid hall
    clear hall
    go_wp2
    go_ret
    exact .inl ⟨HA.out, rfl, _, H3.out⟩
end
end Go.Proofs.Ytckoapfmfpmdgaa

namespace Go.Proofs.Ytckoapfmfpmdgaa
open Go.ChangeShapes Go.WideShapes Go.ChangeAt Go.RowKit Go.Joins
set_option linter.unusedVariables false
set_option linter.unusedSimpArgs false

theorem Bnd.sett {c : Cs} (h : Bnd c) (t : St) : Bnd { c with t := t } := ⟨h.f, h.o, h.d⟩
section
variable {T : TP} {W : World} {F0 Ft : Nat → Prop} {w w' : World} {g : Nat} {a : Addr} {fb ob db : Nat} {c : Cs}
theorem zdrop_t (C : TreeC T) (h : Fi T W F0 Ft w g a fb ob db c) (t : TOk c.t) (p : ByteArray) (hp : p.size ≤ 140737488351232) (d : Bool) : Calls Try.prog 24 #[.pointer (some a), .string p, .bool d] w fun e w' => e = .returned (.int .u16 (dropT c.t p.data.toList d).1) ∧ ∃ Ft', Fi T W F0 Ft' w' g a fb ob db { c with t := (dropT c.t p.data.toList d).2 } :=
  (C.drop p d h.tr t.ok t.n8 hp).mono fun e w' ⟨he, k⟩ => ⟨he, h.tree C k⟩
theorem zmove_t (C : TreeC T) (h : Fi T W F0 Ft w g a fb ob db c) (t : TOk c.t) (p q : ByteArray) (hp : p.size ≤ 140737488351232) (hq : q.size ≤ 140737488351232) : Calls Try.prog 25 #[.pointer (some a), .string p, .string q] w fun e w' => e = .returned (.tuple #[.int .i64 (moveT c.t p.data.toList q.data.toList).1.1, .int .u16 (moveT c.t p.data.toList q.data.toList).1.2]) ∧ ∃ Ft', Fi T W F0 Ft' w' g a fb ob db { c with t := (moveT c.t p.data.toList q.data.toList).2 } :=
  (C.move p q h.tr t.ok t.n8 hp hq).mono fun e w' ⟨he, k⟩ => ⟨he, h.tree C k⟩
theorem zmany_t (C : TreeC T) (h : Fi T W F0 Ft w g a fb ob db c) (t : TOk c.t) (p : ByteArray) (hp : p.size ≤ 140737488351232) : Calls Try.prog 26 #[.pointer (some a), .string p] w fun e w' => e = .returned (.int .u16 (manyT c.t.l p.data.toList)) ∧ ∃ Ft', Fi T W F0 Ft' w' g a fb ob db c :=
  (C.many p h.tr t.ok t.n8 hp).mono fun e w' ⟨he, k⟩ => ⟨he, h.tree C k⟩
set_option maxRecDepth 100000 in
set_option maxHeartbeats 2000000 in
theorem zmkdir_any (C : TreeC T) (h : Fi T W F0 Ft w g a fb ob db c) (t : TOk c.t) (p : ByteArray) (hp : p.size ≤ 140737488351232) : Calls Try.prog 68 #[.pointer (some ⟨g, 0, none⟩), .string p] w fun e w' => e = .returned (.int .u16 (makeT c.t p.data.toList true).1.2) ∧ ∃ Ft', Fi T W F0 Ft' w' g a fb ob db { c with t := (makeT c.t p.data.toList true).2 } := by
  have N := znone_any h
  have HH := Lib.hid h
  have HT := Lib.hid t
  have HP := Lib.hid hp
  clear h t hp
  go_enter Try.func68, Try.ntmps68
  go_wp2_with (first
    | (go_at_call 72; (with_reducible refine N.mono ?_); rintro e w1 ⟨rfl, G1⟩; have H1 := HH.out.on C G1; have k0 : w1.cell? ⟨g, 0, none⟩ = some (.pointer (some a)) := H1.hd.cell 0; have M1 := zmake_t C H1 HT.out p HP.out true; replace H1 := Lib.hid H1)
    | (go_at_call 23; (with_reducible refine M1.mono ?_); rintro e w2 ⟨rfl, H2⟩; replace H2 := Lib.hid H2))
  go_ret
  exact ⟨rfl, H2.out⟩
set_option maxRecDepth 100000 in
set_option maxHeartbeats 2000000 in
theorem zrmdir_any (C : TreeC T) (h : Fi T W F0 Ft w g a fb ob db c) (t : TOk c.t) (p : ByteArray) (hp : p.size ≤ 140737488351232) : Calls Try.prog 69 #[.pointer (some ⟨g, 0, none⟩), .string p] w fun e w' => e = .returned (.int .u16 (dropT c.t p.data.toList true).1) ∧ ∃ Ft', Fi T W F0 Ft' w' g a fb ob db { c with t := (dropT c.t p.data.toList true).2 } := by
  have N := znone_any h
  have HH := Lib.hid h
  have HT := Lib.hid t
  have HP := Lib.hid hp
  clear h t hp
  go_enter Try.func69, Try.ntmps69
  go_wp2_with (first
    | (go_at_call 72; (with_reducible refine N.mono ?_); rintro e w1 ⟨rfl, G1⟩; have H1 := HH.out.on C G1; have k0 : w1.cell? ⟨g, 0, none⟩ = some (.pointer (some a)) := H1.hd.cell 0; have M1 := zdrop_t C H1 HT.out p HP.out true; replace H1 := Lib.hid H1)
    | (go_at_call 24; (with_reducible refine M1.mono ?_); rintro e w2 ⟨rfl, H2⟩; replace H2 := Lib.hid H2))
  go_ret
  exact ⟨rfl, H2.out⟩
set_option maxRecDepth 100000 in
set_option maxHeartbeats 2000000 in
theorem zlist_any (C : TreeC T) (h : Fi T W F0 Ft w g a fb ob db c) (t : TOk c.t) (p : ByteArray) (hp : p.size ≤ 140737488351232) : Calls Try.prog 70 #[.pointer (some ⟨g, 0, none⟩), .string p] w fun e w' => e = .returned (.int .u16 (manyT c.t.l p.data.toList)) ∧ ∃ Ft', Fi T W F0 Ft' w' g a fb ob db c := by
  have N := znone_any h
  have HH := Lib.hid h
  have HT := Lib.hid t
  have HP := Lib.hid hp
  clear h t hp
  go_enter Try.func70, Try.ntmps70
  go_wp2_with (first
    | (go_at_call 72; (with_reducible refine N.mono ?_); rintro e w1 ⟨rfl, G1⟩; have H1 := HH.out.on C G1; have k0 : w1.cell? ⟨g, 0, none⟩ = some (.pointer (some a)) := H1.hd.cell 0; have M1 := zmany_t C H1 HT.out p HP.out; replace H1 := Lib.hid H1)
    | (go_at_call 26; (with_reducible refine M1.mono ?_); rintro e w2 ⟨rfl, H2⟩; replace H2 := Lib.hid H2))
  go_ret
  exact ⟨rfl, H2.out⟩
set_option maxRecDepth 100000 in
set_option maxHeartbeats 2000000 in
theorem zunlink_no (C : TreeC T) (h : Fi T W F0 Ft w g a fb ob db c) (t : TOk c.t) (p : ByteArray) (hp : p.size ≤ 140737488351232) (h0 : (dropT c.t p.data.toList false).1 ≠ 0) : Calls Try.prog 39 #[.pointer (some ⟨g, 0, none⟩), .string p] w fun e w' => e = .returned (.int .u16 (dropT c.t p.data.toList false).1) ∧ ∃ Ft', Fi T W F0 Ft' w' g a fb ob db { c with t := (dropT c.t p.data.toList false).2 } := by
  have N := znone_any h
  have MD : Hid (∀ w1 Ft1, Fi T W F0 Ft1 w1 g a fb ob db c → Calls Try.prog 24 #[.pointer (some a), .string p, .bool false] w1 fun e w' => e = .returned (.int .u16 (dropT c.t p.data.toList false).1) ∧ ∃ Ft', Fi T W F0 Ft' w' g a fb ob db { c with t := (dropT c.t p.data.toList false).2 }) := fun w1 Ft1 h1 => zdrop_t C h1 t p hp false
  have MF : Hid (∀ w1, Gw w w1 → _) := fun w1 G => zfind_t C (h.on C G) t p hp
  have HH := Lib.hid h
  clear h t hp
  generalize findT c.t.l p.data.toList = r at *
  obtain ⟨fn, fd, fno⟩ := r
  generalize dropT c.t p.data.toList false = q at *
  obtain ⟨dno, t2⟩ := q
  simp only at h0 MD ⊢
  have e0 : (dno == 0) = false := beq_false_of_ne h0
  clear h0
  go_enter Try.func39, Try.ntmps39
  go_wp2_with (first
    | (go_at_call 72; (with_reducible refine N.mono ?_); rintro e w1 ⟨rfl, G1⟩; have H1 := HH.out.on C G1; have k0 : w1.cell? ⟨g, 0, none⟩ = some (.pointer (some a)) := H1.hd.cell 0; have M1 := MF.out w1 G1; replace H1 := Lib.hid H1)
    | (go_at_call 27; (with_reducible refine M1.mono ?_); rintro e w2 ⟨rfl, H2⟩; obtain ⟨Ft2, H2⟩ := H2; have k2 : w2.cell? ⟨g, 0, none⟩ = some (.pointer (some a)) := H2.hd.cell 0; have M2 := MD.out w2 Ft2 H2; clear H2)
    | (go_at_call 24; (with_reducible refine M2.mono ?_); rintro e w3 ⟨rfl, H3⟩; replace H3 := Lib.hid H3))
  go_ret
  exact ⟨rfl, H3.out⟩
set_option maxRecDepth 100000 in
set_option maxHeartbeats 2000000 in
theorem zunlink_ok (C : TreeC T) (h : Fi T W F0 Ft w g a fb ob db c) (t : TOk c.t) (p : ByteArray) (hp : p.size ≤ 140737488351232) (hb : Bnd c) (h0 : (dropT c.t p.data.toList false).1 = 0) {n : Nat} {x : Fil} (hn : (findT c.t.l p.data.toList).1 = (n : Int)) (hx : c.f n = some x) : Calls Try.prog 39 #[.pointer (some ⟨g, 0, none⟩), .string p] w fun e w' => e = .returned (.int .u16 0) ∧ ∃ Ft' c', Fi T W F0 Ft' w' g a fb ob db c' ∧ FgP { c with t := (dropT c.t p.data.toList false).2, f := setM c.f n (some { x with out := true }) } n c' := by
  have N := znone_any h
  have MD : Hid (∀ w1 Ft1, Fi T W F0 Ft1 w1 g a fb ob db c → Calls Try.prog 24 #[.pointer (some a), .string p, .bool false] w1 fun e w' => e = .returned (.int .u16 (dropT c.t p.data.toList false).1) ∧ ∃ Ft', Fi T W F0 Ft' w' g a fb ob db { c with t := (dropT c.t p.data.toList false).2 }) := fun w1 Ft1 h1 => zdrop_t C h1 t p hp false
  have MF : Hid (∀ w1, Gw w w1 → _) := fun w1 G => zfind_t C (h.on C G) t p hp
  have HH := Lib.hid h
  have HB := Lib.hid hb
  have HX := Lib.hid hx
  clear h t hp hb hx
  generalize findT c.t.l p.data.toList = r at *
  obtain ⟨fn, fd, fno⟩ := r
  generalize dropT c.t p.data.toList false = q at *
  obtain ⟨dno, t2⟩ := q
  simp only at h0 hn MD ⊢
  subst h0 hn
  go_enter Try.func39, Try.ntmps39
  go_upto_region 7 with (first
    | (go_at_call 72; (with_reducible refine N.mono ?_); rintro e w1 ⟨rfl, G1⟩; have H1 := HH.out.on C G1; have k0 : w1.cell? ⟨g, 0, none⟩ = some (.pointer (some a)) := H1.hd.cell 0; have M1 := MF.out w1 G1; replace H1 := Lib.hid H1)
    | (go_at_call 27; (with_reducible refine M1.mono ?_); rintro e w2 ⟨rfl, H2⟩; obtain ⟨Ft2, H2⟩ := H2; have k2 : w2.cell? ⟨g, 0, none⟩ = some (.pointer (some a)) := H2.hd.cell 0; have M2 := MD.out w2 Ft2 H2; clear H2)
    | (go_at_call 24; (with_reducible refine M2.mono ?_); rintro e w3 ⟨rfl, H3⟩))
  obtain ⟨Ft3, H3⟩ := H3
  have LV := zleave_any C H3 (HB.out.sett t2) (show { c with t := t2 }.f n = some x from HX.out)
  clear H3
  go_wp2_with (go_at_call 78; (with_reducible refine LV.mono ?_); rintro e w4 ⟨rfl, HL⟩; replace HL := Lib.hid HL)
  go_ret
  obtain ⟨c', h1, h2⟩ := HL.out
  exact ⟨rfl, Ft3, c', h1, h2⟩
set_option maxRecDepth 100000 in
set_option maxHeartbeats 2000000 in
theorem zrename_no (C : TreeC T) (h : Fi T W F0 Ft w g a fb ob db c) (t : TOk c.t) (p : ByteArray) (hp : p.size ≤ 140737488351232) (q : ByteArray) (hq : q.size ≤ 140737488351232) (h0 : (moveT c.t p.data.toList q.data.toList).1.2 ≠ 0) : Calls Try.prog 43 #[.pointer (some ⟨g, 0, none⟩), .string p, .string q] w fun e w' => e = .returned (.int .u16 (moveT c.t p.data.toList q.data.toList).1.2) ∧ ∃ Ft', Fi T W F0 Ft' w' g a fb ob db { c with t := (moveT c.t p.data.toList q.data.toList).2 } := by
  have N := znone_any h
  have MV : Hid (∀ w1, Gw w w1 → _) := fun w1 G => zmove_t C (h.on C G) t p q hp hq
  have HH := Lib.hid h
  clear h t hp hq
  generalize moveT c.t p.data.toList q.data.toList = r at *
  obtain ⟨⟨mn, mno⟩, t2⟩ := r
  simp only at h0 MV ⊢
  have e0 : (mno == 0) = false := beq_false_of_ne h0
  clear h0
  go_enter Try.func43, Try.ntmps43
  go_wp2_with (first
    | (go_at_call 72; (with_reducible refine N.mono ?_); rintro e w1 ⟨rfl, G1⟩; have H1 := HH.out.on C G1; have k0 : w1.cell? ⟨g, 0, none⟩ = some (.pointer (some a)) := H1.hd.cell 0; have M1 := MV.out w1 G1; replace H1 := Lib.hid H1)
    | (go_at_call 25; (with_reducible refine M1.mono ?_); rintro e w2 ⟨rfl, H2⟩; replace H2 := Lib.hid H2))
  go_ret
  exact ⟨rfl, H2.out⟩
set_option maxRecDepth 100000 in
set_option maxHeartbeats 2000000 in
theorem zrename_free (C : TreeC T) (h : Fi T W F0 Ft w g a fb ob db c) (t : TOk c.t) (p : ByteArray) (hp : p.size ≤ 140737488351232) (q : ByteArray) (hq : q.size ≤ 140737488351232) (h0 : (moveT c.t p.data.toList q.data.toList).1.2 = 0) (h1 : (moveT c.t p.data.toList q.data.toList).1.1 < 0) : Calls Try.prog 43 #[.pointer (some ⟨g, 0, none⟩), .string p, .string q] w fun e w' => e = .returned (.int .u16 0) ∧ ∃ Ft', Fi T W F0 Ft' w' g a fb ob db { c with t := (moveT c.t p.data.toList q.data.toList).2 } := by
  have N := znone_any h
  have MV : Hid (∀ w1, Gw w w1 → _) := fun w1 G => zmove_t C (h.on C G) t p q hp hq
  have HH := Lib.hid h
  clear h t hp hq
  generalize moveT c.t p.data.toList q.data.toList = r at *
  obtain ⟨⟨mn, mno⟩, t2⟩ := r
  simp only at h0 h1 MV ⊢
  subst h0
  have e0 : decide ((0 : Int) ≤ mn) = false := decide_eq_false (by omega)
  clear h1
  go_enter Try.func43, Try.ntmps43
  go_wp2_with (first
    | (go_at_call 72; (with_reducible refine N.mono ?_); rintro e w1 ⟨rfl, G1⟩; have H1 := HH.out.on C G1; have k0 : w1.cell? ⟨g, 0, none⟩ = some (.pointer (some a)) := H1.hd.cell 0; have M1 := MV.out w1 G1; replace H1 := Lib.hid H1)
    | (go_at_call 25; (with_reducible refine M1.mono ?_); rintro e w2 ⟨rfl, H2⟩; replace H2 := Lib.hid H2))
  go_ret
  exact ⟨rfl, H2.out⟩
set_option maxRecDepth 100000 in
set_option maxHeartbeats 2000000 in
theorem zrename_ok (C : TreeC T) (h : Fi T W F0 Ft w g a fb ob db c) (t : TOk c.t) (p : ByteArray) (hp : p.size ≤ 140737488351232) (q : ByteArray) (hq : q.size ≤ 140737488351232) (hb : Bnd c) (h0 : (moveT c.t p.data.toList q.data.toList).1.2 = 0) {n : Nat} {x : Fil} (hn : (moveT c.t p.data.toList q.data.toList).1.1 = (n : Int)) (hx : c.f n = some x) : Calls Try.prog 43 #[.pointer (some ⟨g, 0, none⟩), .string p, .string q] w fun e w' => e = .returned (.int .u16 0) ∧ ∃ Ft' c', Fi T W F0 Ft' w' g a fb ob db c' ∧ FgP { c with t := (moveT c.t p.data.toList q.data.toList).2, f := setM c.f n (some { x with out := true }) } n c' := by
  have N := znone_any h
  have MV : Hid (∀ w1, Gw w w1 → _) := fun w1 G => zmove_t C (h.on C G) t p q hp hq
  have HH := Lib.hid h
  have HB := Lib.hid hb
  have HX := Lib.hid hx
  clear h t hp hq hb hx
  generalize moveT c.t p.data.toList q.data.toList = r at *
  obtain ⟨⟨mn, mno⟩, t2⟩ := r
  simp only at h0 hn MV ⊢
  subst h0 hn
  have e0 : decide ((0 : Int) ≤ (n : Int)) = true := decide_eq_true (by omega)
  go_enter Try.func43, Try.ntmps43
  go_upto_region 5 with (first
    | (go_at_call 72; (with_reducible refine N.mono ?_); rintro e w1 ⟨rfl, G1⟩; have H1 := HH.out.on C G1; have k0 : w1.cell? ⟨g, 0, none⟩ = some (.pointer (some a)) := H1.hd.cell 0; have M1 := MV.out w1 G1; replace H1 := Lib.hid H1)
    | (go_at_call 25; (with_reducible refine M1.mono ?_); rintro e w2 ⟨rfl, H2⟩))
  obtain ⟨Ft3, H3⟩ := H2
  have LV := zleave_any C H3 (HB.out.sett t2) (show { c with t := t2 }.f n = some x from HX.out)
  clear H3
  go_wp2_with (go_at_call 78; (with_reducible refine LV.mono ?_); rintro e w4 ⟨rfl, HL⟩; replace HL := Lib.hid HL)
  go_ret
  obtain ⟨c', h1, h2⟩ := HL.out
  exact ⟨rfl, Ft3, c', h1, h2⟩
set_option maxRecDepth 100000 in
set_option maxHeartbeats 2000000 in
theorem zdata_no (C : TreeC T) (h : Fi T W F0 Ft w g a fb ob db c) (t : TOk c.t) (p : ByteArray) (hp : p.size ≤ 140737488351232) (h0 : (findT c.t.l p.data.toList).2.2 ≠ 0) : Calls Try.prog 38 #[.pointer (some ⟨g, 0, none⟩), .string p] w fun e w' => e = .returned (.tuple #[.slice none 0 0, .int .u16 (findT c.t.l p.data.toList).2.2]) ∧ ∃ Ft', Fi T W F0 Ft' w' g a fb ob db c := by
  have N := znone_any h
  have MF : Hid (∀ w1, Gw w w1 → _) := fun w1 G => zfind_t C (h.on C G) t p hp
  have HH := Lib.hid h
  clear h t hp
  generalize findT c.t.l p.data.toList = r at *
  obtain ⟨fn, fd, fno⟩ := r
  simp only at h0 MF ⊢
  have e0 : (fno == 0) = false := beq_false_of_ne h0
  clear h0
  go_enter Try.func38, Try.ntmps38
  go_wp2_with (first
    | (go_at_call 72; (with_reducible refine N.mono ?_); rintro e w1 ⟨rfl, G1⟩; have H1 := HH.out.on C G1; have k0 : w1.cell? ⟨g, 0, none⟩ = some (.pointer (some a)) := H1.hd.cell 0; have M1 := MF.out w1 G1; replace H1 := Lib.hid H1)
    | (go_at_call 27; (with_reducible refine M1.mono ?_); rintro e w2 ⟨rfl, H2⟩; replace H2 := Lib.hid H2))
  go_ret2
  exact ⟨rfl, H2.out⟩
set_option maxRecDepth 100000 in
set_option maxHeartbeats 2000000 in
theorem zdata_dir (C : TreeC T) (h : Fi T W F0 Ft w g a fb ob db c) (t : TOk c.t) (p : ByteArray) (hp : p.size ≤ 140737488351232) (h0 : (findT c.t.l p.data.toList).2.2 = 0) (h1 : (findT c.t.l p.data.toList).2.1 = true) : Calls Try.prog 38 #[.pointer (some ⟨g, 0, none⟩), .string p] w fun e w' => e = .returned (.tuple #[.slice none 0 0, .int .u16 65301]) ∧ ∃ Ft', Fi T W F0 Ft' w' g a fb ob db c := by
  have N := znone_any h
  have MF : Hid (∀ w1, Gw w w1 → _) := fun w1 G => zfind_t C (h.on C G) t p hp
  have HH := Lib.hid h
  clear h t hp
  generalize findT c.t.l p.data.toList = r at *
  obtain ⟨fn, fd, fno⟩ := r
  simp only at h0 h1 MF ⊢
  subst h0 h1
  go_enter Try.func38, Try.ntmps38
  go_wp2_with (first
    | (go_at_call 72; (with_reducible refine N.mono ?_); rintro e w1 ⟨rfl, G1⟩; have H1 := HH.out.on C G1; have k0 : w1.cell? ⟨g, 0, none⟩ = some (.pointer (some a)) := H1.hd.cell 0; have M1 := MF.out w1 G1; replace H1 := Lib.hid H1)
    | (go_at_call 27; (with_reducible refine M1.mono ?_); rintro e w2 ⟨rfl, H2⟩; replace H2 := Lib.hid H2))
  go_ret2
  exact ⟨rfl, H2.out⟩
set_option maxRecDepth 100000 in
set_option maxHeartbeats 2000000 in
theorem zdata_ok (C : TreeC T) (h : Fi T W F0 Ft w g a fb ob db c) (t : TOk c.t) (p : ByteArray) (hp : p.size ≤ 140737488351232) (h0 : (findT c.t.l p.data.toList).2.2 = 0) (h1 : (findT c.t.l p.data.toList).2.1 = false) {n : Nat} {x : Fil} (hn : (findT c.t.l p.data.toList).1 = (n : Int)) (hn6 : n < 1000001) (hx : c.f n = some x) (hn8 : x.n ≤ 8) : Calls Try.prog 38 #[.pointer (some ⟨g, 0, none⟩), .string p] w fun e w' => ∃ y, e = .returned (.tuple #[y, .int .u16 0]) ∧ ∃ Ft', Fi T W F0 Ft' w' g a fb ob db c ∧ (∃ w1, ChF F0 W w1 ∧ W.heap.size ≤ w1.heap.size ∧ (∀ k, fF g fb ob db Ft' k → k < w1.heap.size) ∧ NewB w1.heap.size w' y (x.b.take x.n)) := by
  have N := znone_any h
  have MF : Hid (∀ w1, Gw w w1 → _) := fun w1 G => zfind_t C (h.on C G) t p hp
  have HH := Lib.hid h
  have HL8 := Lib.hid h.l8
  obtain ⟨b0, b1, b2, b3, b4, b5, b6, b7, he⟩ := fil8 (h.l8 n x hx)
  obtain ⟨xb, xn, xo⟩ := x
  simp only at he hn8
  subst he
  have HX := Lib.hid hx
  have HN : Hid (n ≤ 9223372036854775807) := by show _ ≤ _; omega
  have HN8 := Lib.hid hn8
  have hb8 : (xn : Int) ≤ 8 := by omega
  clear h t hp hx hn6 hn8
  generalize findT c.t.l p.data.toList = r at *
  obtain ⟨fn, fd, fno⟩ := r
  simp only at h0 h1 hn MF ⊢
  subst h0 h1 hn
  go_enter Try.func38, Try.ntmps38
  go_upto_region 8 with (first
    | (go_at_call 72; (with_reducible refine N.mono ?_); rintro e w1 ⟨rfl, G1⟩; have H1 := HH.out.on C G1; have k0 : w1.cell? ⟨g, 0, none⟩ = some (.pointer (some a)) := H1.hd.cell 0; have M1 := MF.out w1 G1; replace H1 := Lib.hid H1)
    | (go_at_call 27; (with_reducible refine M1.mono ?_); rintro e w2 ⟨rfl, H2⟩))
  obtain ⟨Ft2, H2⟩ := H2
  have k1 : w2.cell? ⟨g, 1, none⟩ = some (.map (some fb)) := H2.hd.cell 1
  have L := H2.lookf (k := n) HN.out
  rw [HX.out] at L
  replace L : _ = Result.ok (Value.agg #[ubV b0, ubV b1, ubV b2, ubV b3, ubV b4, ubV b5, ubV b6, ubV b7, .int .i64 (xn : Int), .bool xo]) w2 := L
  have HH2 := Lib.hid H2
  clear H2
  go_upto_region 9 with fail
  have HV := Has.new w2 114 #[ubV b0, ubV b1, ubV b2, ubV b3, ubV b4, ubV b5, ubV b6, ubV b7, .int .i64 (xn : Int), .bool xo]
  have GV : Hid (Gw w2 (w2.alloc (.cells #[ubV b0, ubV b1, ubV b2, ubV b3, ubV b4, ubV b5, ubV b6, ubV b7, .int .i64 (xn : Int), .bool xo] 114))) := Gw.alloc _ _
  clear k1 L
  generalize w2.heap.size = xp at *
  generalize (w2.alloc (.cells #[ubV b0, ubV b1, ubV b2, ubV b3, ubV b4, ubV b5, ubV b6, ubV b7, .int .i64 (xn : Int), .bool xo] 114)) = V at *
  have HF := Lib.hid (HH2.out.on C GV.out)
  obtain ⟨x8, f8⟩ := box8 HV
  have HLEN : Hid (([b0, b1, b2, b3, b4, b5, b6, b7].take xn).length = xn) := by have := HN8.out; show _ = _; simp; omega
  have CL := zclone_n V (b := xp) (off := 0) (cap := 8) HLEN.out HN8.out (fun j y hj => by
    rw [List.getElem?_take] at hj
    rw [Nat.zero_add]
    split at hj
    · exact fil_cell (x := ⟨[b0, b1, b2, b3, b4, b5, b6, b7], xn, xo⟩) HV hj
    · cases hj)
  clear HV
  go_wp2_with (go_at_call 77; (with_reducible refine CL.mono ?_); rintro e w8 ⟨y, rfl, G8, N8⟩; replace N8 := Lib.hid N8)
  go_ret2
  exact ⟨y, rfl, Ft2, HF.out.on C G8, V, HF.out.ch, HF.out.ch.size, fun j hj => HF.out.lt C hj, N8.out⟩
end
end Go.Proofs.Ytckoapfmfpmdgaa

namespace Go.Proofs.Ytckoapfmfpmdgaa
open Go.ChangeShapes Go.WideShapes Go.ChangeAt Go.RowKit Go.Joins
set_option linter.unusedVariables false
set_option linter.unusedSimpArgs false

/-! ### What the tree's numbers are -/
theorem zfrom_items : ∀ (es : List (List UInt8 × Bool)) (k : Nat) (l l' : List Itm), (∀ i ∈ l, i.n < (k : Int)) → (l.map (·.n)).Nodup → fromT es k l = some l' → (l'.map (·.n)).Nodup ∧ ∀ i ∈ l', i ∈ l ∨ ∃ j : Nat, i.n = ((k + j : Nat) : Int) ∧ es[j]? = some (i.p, i.d)
  | [], k, l, l', hb, hn, he => by cases he; exact ⟨hn, fun i hi => .inl hi⟩
  | e :: es, k, l, l', hb, hn, he => by
    rw [fromT] at he
    cases hp : putT l e.1 e.2 k with
    | none => rw [hp] at he; cases he
    | some m =>
      rw [hp] at he
      have hm : m = l ++ [⟨e.1, e.2, (k : Int)⟩] := by
        unfold putT at hp
        repeat' split at hp
        all_goals first
          | exact (Option.some.inj hp).symm
          | cases hp
      obtain ⟨h1, h2⟩ := zfrom_items es (k + 1) m l' (fun i hi => by
        rw [hm] at hi
        rcases List.mem_append.1 hi with q | q
        · have := hb i q; omega
        · rw [List.mem_singleton.1 q]; show (k : Int) < _; omega) (by
        rw [hm, List.map_append, List.nodup_append]
        refine ⟨hn, by simp, fun a ha b hb' e => ?_⟩
        obtain ⟨i, hi, rfl⟩ := List.mem_map.1 ha
        simp at hb'
        have := hb i hi
        omega) he
      refine ⟨h1, fun i hi => ?_⟩
      rcases h2 i hi with q | ⟨j, q1, q2⟩
      · rw [hm] at q
        rcases List.mem_append.1 q with q | q
        · exact .inl q
        · rw [List.mem_singleton.1 q]
          exact .inr ⟨0, by simp, by simp⟩
      · exact .inr ⟨j + 1, by rw [q1]; omega, by simpa using q2⟩
theorem znew_items {es : List (List UInt8 × Bool)} {t : St} (h : newT es = some t) : (t.l.map (·.n)).Nodup ∧ (∀ i ∈ t.l, ∃ j : Nat, i.n = (j : Int) ∧ es[j]? = some (i.p, i.d)) ∧ t.nx = es.length := by
  have h3 := (new_ok1 h).2.2.1
  unfold newT at h
  split at h
  · cases h
  · cases hf : fromT es 0 [] with
    | none => rw [hf] at h; cases h
    | some l =>
      rw [hf] at h
      cases h
      obtain ⟨h1, h2⟩ := zfrom_items es 0 [] l (fun i hi => by cases hi) List.nodup_nil hf
      refine ⟨h1, fun i hi => ?_, h3⟩
      rcases h2 i hi with q | ⟨j, q1, q2⟩
      · cases q
      · exact ⟨j, by simpa using q1, q2⟩
/-- The files of the first k entries. -/
structure Fl (es : List (List UInt8 × Bool)) (k : Nat) (a : List (List UInt8)) (f : Nat → Option Fil) : Prop where
  has : ∀ n e, n < k → es[n]? = some e → e.2 = false → ∃ x, f n = some x ∧ x.b = pad8 (a[n]?.getD []) ∧ x.n = (a[n]?.getD []).length
  only : ∀ n x, f n = some x → n < k ∧ x.b.length = 8 ∧ x.n ≤ 8 ∧ x.out = false
theorem Fl.start (es : List (List UInt8 × Bool)) : Fl es 0 [] (fun _ => none) := ⟨fun n e h => absurd h (Nat.not_lt_zero n), fun n x h => by cases h⟩
theorem get_snoc {a : List (List UInt8)} {y : List UInt8} {n : Nat} (h : n < a.length) : (a ++ [y])[n]?.getD [] = a[n]?.getD [] := by rw [List.getElem?_append_left h]
theorem Fl.dir {es : List (List UInt8 × Bool)} {k : Nat} {a : List (List UInt8)} {f : Nat → Option Fil} (h : Fl es k a f) (ha : a.length = k) {e : List UInt8 × Bool} (he : es[k]? = some e) (hd : e.2 = true) (y : List UInt8) : Fl es (k + 1) (a ++ [y]) f := by
  refine ⟨fun n e' hn he' hd' => ?_, fun n x hx => ?_⟩
  · have hne : n ≠ k := by
      rintro rfl
      rw [he] at he'
      cases he'
      rw [hd] at hd'; cases hd'
    rw [get_snoc (by omega)]
    exact h.has n e' (by omega) he' hd'
  · have := h.only n x hx
    exact ⟨by omega, this.2⟩
theorem Fl.file {es : List (List UInt8 × Bool)} {k : Nat} {a : List (List UInt8)} {f : Nat → Option Fil} (h : Fl es k a f) (ha : a.length = k) {y : List UInt8} (hy : y.length ≤ 8) : Fl es (k + 1) (a ++ [y]) (setM f k (some ⟨pad8 y, y.length, false⟩)) := by
  refine ⟨fun n e' hn he' hd' => ?_, fun n x hx => ?_⟩
  · by_cases e : n = k
    · subst e
      refine ⟨_, setM_same _ _ _, ?_⟩
      rw [List.getElem?_append_right (by omega), ha, Nat.sub_self]
      exact ⟨rfl, rfl⟩
    · rw [get_snoc (by omega)]
      obtain ⟨x, h1, h2⟩ := h.has n e' (by omega) he' hd'
      exact ⟨x, (setM_ne _ _ e).trans h1, h2⟩
  · rcases setM_some hx with ⟨rfl, e⟩ | ⟨_, hx⟩
    · cases e; exact ⟨by omega, pad8_len hy, hy, rfl⟩
    · have := h.only n x hx
      exact ⟨by omega, this.2⟩
theorem no_fd (t : St) (a : List (List UInt8)) (fd : Nat) : ofI ⟨t, a, [], [-1, -1, -1, -1]⟩ fd = none := by
  unfold ofI
  simp only
  match fd with
  | 0 => rfl
  | 1 => rfl
  | 2 => rfl
  | 3 => rfl
  | n + 4 => rfl
/-- What New leaves. -/
theorem rel_new {es : List (List UInt8 × Bool)} {data : List (List UInt8)} {t : St} (ht : newT es = some t) {a : List (List UInt8)} {k : Nat} (hf : fillTo es data es.length = some (a, k)) {f : Nat → Option Fil} (h : Fl es es.length a f) : Rel ⟨t, f, fun _ => none, fun _ => none, 0⟩ ⟨t, a, [], [-1, -1, -1, -1]⟩ := by
  obtain ⟨h1, h2, h3⟩ := znew_items ht
  have h8 := (new_ok1 ht).2.2.2
  refine ⟨rfl, rfl, fun fd => (no_fd t a fd).symm, fun fd i hi => (by rw [no_fd] at hi; cases hi), fun n hn => ?_, fun n x hx ho => ?_, fun n x hx => ?_, fun i x hx => (by cases hx), h1, Nat.zero_le _, ?_⟩
  · rcases hn with ⟨i, hi, hd, he⟩ | ⟨fd, i, hi, _⟩
    · obtain ⟨j, q1, q2⟩ := h2 i hi
      obtain rfl : j = n := by omega
      exact h.has j _ (List.getElem?_eq_some_iff.1 q2).1 q2 hd
    · rw [no_fd] at hi; cases hi
  · rw [(h.only n x hx).2.2.2] at ho; cases ho
  · have := h.only n x hx
    exact ⟨by show (n : Int) < t.nx; omega, this.2.1, this.2.2.1⟩
  · show t.nx ≤ _; omega
/-! ### What the walk begins with -/
theorem zstart {T : TP} (C : TreeC T) {W w1 : World} {F : Nat → Prop} {a : Addr} {t : St} (hT : T F w1 (.pointer (some a)) t) (G : Gw W w1) (hF : ∀ k, F k → W.heap.size ≤ k) :
    Fi T W (fun _ => False) F ((((w1.alloc (.map #[] 0)).alloc (.map #[] 0)).alloc (.map #[] 0)).alloc (.cells #[.pointer (some a), .map (some w1.heap.size), .map (some (w1.heap.size + 1)), .map (some (w1.heap.size + 1 + 1)), .int .i64 0] 111)) (w1.heap.size + 1 + 1 + 1) a w1.heap.size (w1.heap.size + 1) (w1.heap.size + 1 + 1) ⟨t, fun _ => none, fun _ => none, fun _ => none, 0⟩ := by
  have e1 : (w1.alloc (.map #[] 0)).heap.size = w1.heap.size + 1 := size_alloc _ _
  have e2 : ((w1.alloc (.map #[] 0)).alloc (.map #[] 0)).heap.size = w1.heap.size + 1 + 1 := by rw [size_alloc, e1]
  have e3 : (((w1.alloc (.map #[] 0)).alloc (.map #[] 0)).alloc (.map #[] 0)).heap.size = w1.heap.size + 1 + 1 + 1 := by rw [size_alloc, e2]
  have g1 := Gw.alloc w1 (.map #[] 0)
  have g2 := Gw.alloc (w1.alloc (.map #[] 0)) (.map #[] 0)
  have g3 := Gw.alloc ((w1.alloc (.map #[] 0)).alloc (.map #[] 0)) (.map #[] 0)
  have g4 := Gw.alloc (((w1.alloc (.map #[] 0)).alloc (.map #[] 0)).alloc (.map #[] 0)) (.cells #[.pointer (some a), .map (some w1.heap.size), .map (some (w1.heap.size + 1)), .map (some (w1.heap.size + 1 + 1)), .int .i64 0] 111)
  have gl := ((g1.trans g2).trans g3).trans g4
  have lt : ∀ k, F k → k < w1.heap.size := fun k hk => C.lt hT hk
  have n1 := (((NM.made w1 tI .i64).on g2).on g3).on g4
  have n2 := ((NM.made (w1.alloc (.map #[] 0)) tI .i64).on g3).on g4
  have n3 := (NM.made ((w1.alloc (.map #[] 0)).alloc (.map #[] 0)) tU .u16).on g4
  have hh := Has.new (((w1.alloc (.map #[] 0)).alloc (.map #[] 0)).alloc (.map #[] 0)) 111 #[.pointer (some a), .map (some w1.heap.size), .map (some (w1.heap.size + 1)), .map (some (w1.heap.size + 1 + 1)), .int .i64 0]
  rw [e3] at hh
  rw [e1] at n2
  rw [e2] at n3
  have hs := G.size
  refine ⟨hh, C.same hT (fun k hk => gl.block k (lt k hk)), n1, n2, n3, fun n x h => (by cases h), ⟨fun hf => ?_, fun hf => ?_, fun hf => ?_, fun hf => ?_, by omega, by omega, by omega, by omega, by omega, by omega⟩, chf_gw (G.trans gl), fun k hk => .inr ?_⟩
  · have := lt _ hf; omega
  · have := lt _ hf; omega
  · have := lt _ hf; omega
  · have := lt _ hf; omega
  · rcases hk with rfl | rfl | rfl | rfl | hk
    · omega
    · omega
    · omega
    · omega
    · exact hF k hk
end Go.Proofs.Ytckoapfmfpmdgaa
