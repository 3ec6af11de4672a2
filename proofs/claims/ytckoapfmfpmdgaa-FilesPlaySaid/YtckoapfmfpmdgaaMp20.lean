/-
  Parts of the proof, joined: FzR, FzS.
-/
import Derived.Test.YtckoapfmfpmdgaaMp19
import Derived.Test.YtckoapfmfpmdgaaMp18

namespace Go.Proofs.Ytckoapfmfpmdgaa
open Go.ChangeShapes Go.WideShapes Go.ChangeAt Go.RowKit Go.Joins
set_option linter.unusedVariables false
set_option linter.unusedSimpArgs false

theorem gw_none {W w : World} (h : ChF (fun _ => False) W w) : Gw W w := ⟨h.os, rfl, h.output, h.size, fun k hk => h.block k hk id⟩
theorem DatN.on {w w' : World} {v : Value} {d : List (List UInt8)} (h : DatN w v d) (G : Gw w w') : DatN w' v d := by
  obtain ⟨A, cap, h1, h2, h3⟩ := h
  refine ⟨A, cap, h1, h2, fun k l hk => ?_⟩
  obtain ⟨gd, off, x, a, b, c⟩ := h3 k l hk
  exact ⟨gd, off, x, a, G.cell b, c.on G⟩
theorem fill_dir {es : List (List UInt8 × Bool)} {data : List (List UInt8)} {k : Nat} {al : List (List UInt8)} {m : Nat} (h : fillTo es data k = some (al, m)) {e : List UInt8 × Bool} (he : es[k]? = some e) (hd : e.2 = true) : fillTo es data (k + 1) = some (al ++ [[]], m) := by
  rw [fillTo, h, he]
  simp only
  rw [if_pos hd]
theorem fill_file {es : List (List UInt8 × Bool)} {data : List (List UInt8)} {k : Nat} {al : List (List UInt8)} {m : Nat} (h : fillTo es data k = some (al, m)) {e : List UInt8 × Bool} (he : es[k]? = some e) (hd : e.2 = false) {x : List UInt8} (hx : data[m]? = some x) (h8 : ¬ 8 < x.length) : fillTo es data (k + 1) = some (al ++ [x], m + 1) := by
  rw [fillTo, h, he]
  simp only
  rw [if_neg (by rw [hd]; decide), hx]
  simp only
  rw [if_neg h8]
theorem fill_gone {es : List (List UInt8 × Bool)} {data : List (List UInt8)} {k : Nat} {al : List (List UInt8)} {m : Nat} (h : fillTo es data k = some (al, m)) {e : List UInt8 × Bool} (he : es[k]? = some e) (hd : e.2 = false) (hx : data[m]? = none) : fillTo es data (k + 1) = none := by
  rw [fillTo, h, he]
  simp only
  rw [if_neg (by rw [hd]; decide), hx]
theorem fill_long {es : List (List UInt8 × Bool)} {data : List (List UInt8)} {k : Nat} {al : List (List UInt8)} {m : Nat} (h : fillTo es data k = some (al, m)) {e : List UInt8 × Bool} (he : es[k]? = some e) (hd : e.2 = false) {x : List UInt8} (hx : data[m]? = some x) (h8 : 8 < x.length) : fillTo es data (k + 1) = none := by
  rw [fillTo, h, he]
  simp only
  rw [if_neg (by rw [hd]; decide), hx]
  simp only
  rw [if_pos h8]
theorem dat_end {w : World} {A : Option Addr} {data : List (List UInt8)} {m : Nat} (h : data.length ≤ m) : DatN w (.slice A 0 0) (data.drop m) := by
  have e : data.drop m = [] := List.drop_of_length_le h
  rw [e]
  exact ⟨A, 0, rfl, Nat.le_refl _, fun k l hk => by simp at hk⟩
theorem dat_tail {w : World} {gd offd n2 cp m : Nat} {data : List (List UInt8)} (h : ∀ (k : Nat) l, (data.drop m)[k]? = some l → ∃ gd' off' x, (some ⟨gd, offd, none⟩ : Option Addr) = some ⟨gd', off', none⟩ ∧ w.cell? ⟨gd', off' + k, none⟩ = some x ∧ BtA w x l) (hn : n2 = data.length - m) (hle : n2 ≤ cp) (hp : 0 < n2) : DatN w (.slice (some ⟨gd, offd + 1, none⟩) (n2 - 1) (cp - 1)) (data.drop (m + 1)) := by
  have e : (data.drop (m + 1)).length = n2 - 1 := by rw [List.length_drop]; omega
  refine ⟨_, cp - 1, by rw [e], by rw [e]; omega, fun k l hk => ?_⟩
  obtain ⟨gd', off', x, q1, q2, q3⟩ := h (k + 1) l (by rw [List.getElem?_drop] at hk ⊢; rw [← hk]; congr 1; omega)
  cases q1
  exact ⟨gd, offd + 1, x, rfl, by rw [show offd + 1 + k = offd + (k + 1) by omega]; exact q2, q3⟩
/-- copy of all there is into a new file's bytes. -/
theorem copy_new {w : World} {xp ll : Nat} {xl : List UInt8} (hx : Has w xp 114 (filC ⟨List.replicate 8 0, ll, false⟩).toArray) (hl : ll = xl.length) (h8 : ll ≤ 8) {A' : Option Addr} {c' : Nat} (hy : ∀ (j : Nat) c, xl[j]? = some c → ∃ b off, A' = some ⟨b, off, none⟩ ∧ w.cell? ⟨b, off + j, none⟩ = some (ubV c)) (ty : TypeId) :
    ∃ w', (Builtin.copy_ #[52, 52] ty #[.slice (some ⟨xp, 0, none⟩) 8 8, .slice A' ll c']).run Try.prog w = .ok (.int .i64 (ll : Int)) w' ∧ Has w' xp 114 (filC ⟨pad8 xl, ll, false⟩).toArray ∧ But xp w w' := by
  cases xl with
  | nil =>
    obtain ⟨i0, hi, hz0, hz1, hz2⟩ := info_ub
    subst hl
    exact ⟨w, run_copy_none (P := Try.prog) w 52 52 ty 5 _ _ 8 8 0 c' Try.underlying52 (by rw [hi]; simp [hz1]) rfl, hx, But.refl _ _⟩
  | cons c l =>
    obtain ⟨b, off, rfl, _⟩ := hy 0 c rfl
    subst hl
    have := copy_run (x := ⟨List.replicate 8 0, (c :: l).length, false⟩) hx rfl (at_ := 0) (m := (c :: l).length) (lb := c :: l) (by decide) (by omega) (yb := b) (yo := off) (cap := c') (fun j y hj => by
      obtain ⟨b', o', e, h⟩ := hy j y hj
      cases e
      exact h) ty
    obtain ⟨w', h1, h2, h3⟩ := this
    refine ⟨w', h1, ?_, h3⟩
    have e : pad8 (c :: l) = (List.replicate 8 (0 : UInt8)).take 0 ++ (c :: l).take (c :: l).length ++ (List.replicate 8 (0 : UInt8)).drop (0 + (c :: l).length) := by
      unfold pad8
      rw [List.take_zero, List.nil_append, List.take_length, List.drop_replicate, Nat.zero_add]
    rw [e]
    exact h2
theorem znew_bad {T : FP} {W w : World} {es : List (List UInt8 × Bool)} {data : List (List UInt8)} {k : Int} (h : newF es data = .inl k) (G : Gw W w) : NewFP T W es data (.returned (.tuple #[.pointer none, .int .i64 k])) w := by
  unfold NewFP
  rw [h]
  exact ⟨rfl, G⟩
theorem znew_good {T : TP} {W w : World} {es : List (List UInt8 × Bool)} {data : List (List UInt8)} {s : Fs} (h : newF es data = .inr s) {F : Nat → Prop} {g : Nat} {a : Addr} {fb ob db : Nat} {c : Cs} (H : Fi T W (fun _ => False) F w g a fb ob db c) (R : Rel c s) : NewFP (FTT T) W es data (.returned (.tuple #[.pointer (some ⟨g, 0, none⟩), .int .i64 0])) w := by
  unfold NewFP
  rw [h]
  exact ⟨_, fF g fb ob db F, rfl, ⟨g, a, fb, ob, db, F, c, rfl, H.base, R, rfl⟩, gw_none H.ch, fun k hk => (H.own k hk).resolve_left id⟩
set_option maxRecDepth 100000 in
set_option maxHeartbeats 2000000 in
theorem znew_none {T : TP} (C : TreeC T) {W : World} {x y : Value} {es : List (List UInt8 × Bool)} {data : List (List UInt8)} (hx : EntAt W x es) (hsm : ∀ e ∈ es, e.1.length ≤ 140737488351232) (hlen : es.length ≤ 4611686018427387904) (h0 : newT es = none) : Calls Try.prog 30 #[x, y] W fun e W' => NewFP (FTT T) W es data e W' := by
  have TN : Calls Try.prog 17 #[x] W fun e W' => e = .returned (.tuple #[.pointer none, .int .i64 11]) ∧ Gw W W' := (C.new hx hsm hlen).mono fun e w k => by
    unfold NewP at k
    rw [h0] at k
    exact k
  have HN : Hid (newF es data = .inl 11) := by show _ = _; unfold newF; rw [h0]
  clear hx hsm hlen h0
  go_enter Try.func30, Try.ntmps30
  go_wp2_with (go_at_call 17; (with_reducible refine TN.mono ?_); rintro e w1 ⟨rfl, G1⟩)
  go_ret2
  exact znew_bad HN.out G1
set_option maxRecDepth 100000 in
set_option maxHeartbeats 8000000 in
theorem znew_any {T : TP} (C : TreeC T) {W : World} {x y : Value} {es : List (List UInt8 × Bool)} {data : List (List UInt8)} (hx : EntAt W x es) (hy : DatN W y data) (hsm : ∀ e ∈ es, e.1.length ≤ 140737488351232) (hlen : es.length ≤ 4611686018427387904) (hdl : data.length ≤ 4611686018427387904) : Calls Try.prog 30 #[x, y] W fun e W' => NewFP (FTT T) W es data e W' := by
  cases hn : newT es with
  | none => exact znew_none C hx hsm hlen hn
  | some t =>
  have TN : Calls Try.prog 17 #[x] W fun e W' => ∃ a F, e = .returned (.tuple #[.pointer (some a), .int .i64 0]) ∧ T F W' (.pointer (some a)) t ∧ Gw W W' ∧ ∀ k, F k → W.heap.size ≤ k := (C.new hx hsm hlen).mono fun e w k => by
    unfold NewP at k
    rw [hn] at k
    exact k
  have HDN := Lib.hid hy
  obtain ⟨A, cap, rfl, hE⟩ := hx
  obtain ⟨AD, cd, rfl, hdc, hD⟩ := hy
  have HE := Lib.hid hE
  have HNT := Lib.hid hn
  have HES8 := Lib.hid (new_ok1 hn).2.2.2
  have HDL := Lib.hid hdl
  clear hE hsm hlen hdc hD hn hdl
  go_enter Try.func30, Try.ntmps30
  have hmm := @run_makeMap Try.prog
  go_upto_region 5 with (go_at_call 17; (with_reducible refine TN.mono ?_); rintro e w1 ⟨a, F, rfl, hT, G1, hF⟩)
  have HF0 := Lib.hid (zstart C hT G1 hF)
  clear hT G1 hF TN
  generalize ((((w1.alloc (.map #[] 0)).alloc (.map #[] 0)).alloc (.map #[] 0)).alloc (.cells #[.pointer (some a), .map (some w1.heap.size), .map (some (w1.heap.size + 1)), .map (some (w1.heap.size + 1 + 1)), .int .i64 0] 111)) = w0 at *
  generalize w1.heap.size + 1 + 1 + 1 = g at *
  generalize w1.heap.size + 1 + 1 = db at *
  generalize w1.heap.size + 1 = ob at *
  generalize w1.heap.size = fb at *
  go_wp2_with fail
  go_loopw [1, 28] (fun v1 ix wr => ∃ (k : Nat) (B : Option Addr) (n2 cp : Nat), ix = .int .i64 (k : Int) ∧ k ≤ es.length ∧ v1 = .slice B n2 cp ∧ Hid (∃ al m f, fillTo es data k = some (al, m) ∧ n2 = data.length - m ∧ DatN W (.slice B n2 cp) (data.drop m) ∧ Fl es k al f ∧ Fi T W (fun _ => False) F wr g a fb ob db ⟨t, f, fun _ => none, fun _ => none, 0⟩)) (fun _ ix _ => es.length - (intOf ix).toNat)
  case atStart => exact ⟨0, AD, data.length, cd, rfl, Nat.zero_le _, rfl, [], 0, _, rfl, rfl, HDN.out, Fl.start es, HF0.out⟩
  case round =>
    obtain ⟨k, B, n2, cp, rfl, hk, rfl, HS⟩ := hrel
    obtain ⟨al, m, f, hfill, hn2, hdat, hfl, hfi⟩ := HS.out
    have HFILL := Lib.hid hfill
    have HN2 := Lib.hid hn2
    have HDAT := Lib.hid hdat
    have HFLL := Lib.hid hfl
    have HFI := Lib.hid hfi
    have HALN := Lib.hid (fill_len hfill)
    clear hfill hn2 hdat hfl hfi HS
    by_cases hlt : k < es.length
    · obtain ⟨e, he⟩ : ∃ e, es[k]? = some e := ⟨_, List.getElem?_eq_getElem hlt⟩
      obtain ⟨ge, off, rfl, d0, d1, ci, d2⟩ := HE.out k e he
      have GN := gw_none HFI.out.ch
      have d0 := GN.cell d0
      have d1 := GN.cell d1
      have d2 := GN.cell d2
      have HE1 := Lib.hid he
      have h62 : (k : Int) + 1 ≤ 9223372036854775807 := by have := HES8.out; omega
      clear he GN
      obtain ⟨e1, e2⟩ := e
      simp only at d0 d1 d2
      have GA : Hid (Gw wr (wr.alloc (.cells #[.string (bs e1), .bool e2, .int .i64 ci] 44))) := Gw.alloc _ _
      cases e2 with
      | true =>
        go_wp2
        go_roundw
        case rel => exact ⟨k + 1, B, n2, cp, by go_num, by omega, rfl, al ++ [[]], m, f, fill_dir HFILL.out HE1.out rfl, HN2.out, HDAT.out, HFLL.out.dir HALN.out.1 HE1.out rfl [], HFI.out.on C GA.out⟩
        case measure => simp [intOf]; omega
      | false =>
        by_cases hz : n2 = 0
        · subst hz
          have HBAD := Lib.hid (newF_bad HNT.out (Nat.succ_le_of_lt hlt) (fill_gone HFILL.out HE1.out rfl (List.getElem?_eq_none (by have := HN2.out; have := HALN.out.2.2.1; omega))))
          go_wp2
          go_ret2
          exact znew_bad HBAD.out ((gw_none HFI.out.ch).trans GA.out)
        · have hp : 0 < n2 := by omega
          have t0 : ((n2 : Int) == 0) = false := beq_false_of_ne (by omega)
          obtain ⟨xl, hxl⟩ : ∃ xl, data[m]? = some xl := ⟨_, List.getElem?_eq_getElem (by have := HN2.out; omega)⟩
          have hdl2 := HDAT.out.on (gw_none HFI.out.ch)
          obtain ⟨B9, cp9, hBe9, hle9, hd9⟩ := HDAT.out
          injection hBe9 with hb9 hb8 hb7
          subst hb9 hb7
          have HDD9 := Lib.hid hd9
          clear hd9 hle9 hb8
          obtain ⟨B', cp', hBe, hle, hd⟩ := hdl2
          have hdn : (data.drop m).length = n2 := by rw [List.length_drop]; exact HN2.out.symm
          rw [hdn] at hBe hle
          injection hBe with hb1 hb2 hb3
          subst hb1 hb3
          obtain ⟨gd, offd, xv, rfl, hc, hbt⟩ := hd 0 xl (by rw [List.getElem?_drop]; exact hxl)
          obtain ⟨A', c', rfl, hlc, hc63, hby⟩ := hbt
          have q0 : wr.cell? ⟨gd, offd, none⟩ = some (.slice A' xl.length c') := hc
          have q1 := GA.out.cell q0
          have HXL := Lib.hid hxl
          have HDD := Lib.hid hd
          have HLE := Lib.hid hle
          have HBY := Lib.hid hby
          have HZ := Lib.hid hz
          clear hz hdn hd hc hlc hc63 hby hxl hb2
          by_cases h8 : 8 < xl.length
          · have HBAD := Lib.hid (newF_bad HNT.out (Nat.succ_le_of_lt hlt) (fill_long HFILL.out HE1.out rfl HXL.out h8))
            have t2 : decide ((8 : Int) < (xl.length : Int)) = true := decide_eq_true (by omega)
            generalize xl.length = ll at *
            clear h8
            go_wp2
            go_ret2
            exact znew_bad HBAD.out ((gw_none HFI.out.ch).trans GA.out)
          · have t2 : decide ((8 : Int) < (xl.length : Int)) = false := decide_eq_false (by omega)
            obtain ⟨ll, hll⟩ : ∃ ll, ll = xl.length := ⟨_, rfl⟩
            have HL8 : Hid (ll ≤ 8) := by show _ ≤ _; omega
            rw [← hll] at q0 q1 t2
            have HLL := Lib.hid hll
            clear h8 hll
            go_upto_region 12 with fail
            have HV := Has.new (wr.alloc (.cells #[.string (bs e1), .bool false, .int .i64 ci] 44)) 114 #[.int .u8 0, .int .u8 0, .int .u8 0, .int .u8 0, .int .u8 0, .int .u8 0, .int .u8 0, .int .u8 0, .int .i64 (ll : Int), .bool false]
            have GV : Hid (Gw (wr.alloc (.cells #[.string (bs e1), .bool false, .int .i64 ci] 44)) ((wr.alloc (.cells #[.string (bs e1), .bool false, .int .i64 ci] 44)).alloc (.cells #[.int .u8 0, .int .u8 0, .int .u8 0, .int .u8 0, .int .u8 0, .int .u8 0, .int .u8 0, .int .u8 0, .int .i64 (ll : Int), .bool false] 114))) := Gw.alloc _ _
            have HF1 := Lib.hid (HFI.out.on C GA.out)
            have HBX := Lib.hid (HF1.out.box C)
            have HLT : Hid (wr.heap.size ≤ wr.heap.size + 1) := Nat.le_succ _
            have HWX : Hid (W.heap.size ≤ (wr.alloc (.cells #[.string (bs e1), .bool false, .int .i64 ci] 44)).heap.size) := HF1.out.ch.size
            rw [size_alloc] at HV HBX HWX
            generalize wr.heap.size + 1 = xp at *
            generalize ((wr.alloc (.cells #[.string (bs e1), .bool false, .int .i64 ci] 44)).alloc (.cells #[.int .u8 0, .int .u8 0, .int .u8 0, .int .u8 0, .int .u8 0, .int .u8 0, .int .u8 0, .int .u8 0, .int .i64 (ll : Int), .bool false] 114)) = V at *
            have HFV := Lib.hid (HF1.out.on C GV.out)
            have q2 := GV.out.cell q1
            obtain ⟨w3, RC, H3, B3⟩ := copy_new (show Has V.drew xp 114 (filC ⟨List.replicate 8 0, ll, false⟩).toArray from HV) HLL.out HL8.out (c' := c') (A' := A') (fun j y hj => by
              obtain ⟨b', o', q3, q4⟩ := HBY.out j y hj
              exact ⟨b', o', q3, GV.out.cell (GA.out.cell q4)⟩) 3
            have HF3 := Lib.hid ((HFV.out.drew C).off C HBX.out HWX.out B3)
            have HG3 : Hid (Gw wr w3) := B3.gw (GA.out.trans GV.out).drew HLT.out
            have hl8 : (pad8 xl).length = 8 := pad8_len (by rw [← HLL.out]; exact HL8.out)
            obtain ⟨c0, c1, c2, c3, c4, c5, c6, c7, hp8⟩ := fil8 (x := ⟨pad8 xl, ll, false⟩) hl8
            simp only at hp8
            have HP8 := Lib.hid hp8
            rw [hp8] at H3
            replace H3 : Has w3 xp 114 #[ubV c0, ubV c1, ubV c2, ubV c3, ubV c4, ubV c5, ubV c6, ubV c7, .int .i64 (ll : Int), .bool false] := H3
            obtain ⟨j0, j1, j2, j3, j4, j5, j6, j7, j8, j9⟩ := box10 H3
            have k1 : w3.cell? ⟨g, 1, none⟩ = some (.map (some fb)) := HF3.out.hd.cell 1
            have HK8 : Hid (k < 1000001) := by have := HES8.out; show _ < _; omega
            have HB : Hid (Bnd ⟨t, f, fun _ => none, fun _ => none, 0⟩) := ⟨fun n x hx => (by have := (HFLL.out.only n x hx).1; have := HES8.out; omega), fun n x hx => (by cases hx), fun n x hx => (by cases hx)⟩
            obtain ⟨w5, hup, hn5, ht5⟩ := (HF3.out.drew C).storef HB.out HK8.out ⟨[c0, c1, c2, c3, c4, c5, c6, c7], ll, false⟩
            replace hup : (Instr.mapUpdate tMF (.map (some fb)) (.int .i64 (k : Int)) (.agg #[ubV c0, ubV c1, ubV c2, ubV c3, ubV c4, ubV c5, ubV c6, ubV c7, .int .i64 (ll : Int), .bool false])).run Try.prog w3.drew = .ok () w5 := hup
            have HF5 := Lib.hid ((HF3.out.drew C).turnf C ht5 (x := some ⟨[c0, c1, c2, c3, c4, c5, c6, c7], ll, false⟩) (fun y hy => by cases hy; rfl) hn5)
            have HW5 : Hid (Gw W w5) := gw_none HF5.out.ch
            have HFF : Hid (Fl es (k + 1) (al ++ [xl]) (setM f k (some ⟨[c0, c1, c2, c3, c4, c5, c6, c7], ll, false⟩))) := by
              have := HFLL.out.file HALN.out.1 (y := xl) (by rw [← HLL.out]; exact HL8.out)
              rw [HP8.out, ← HLL.out] at this
              exact this
            have HFI9 := Lib.hid (fill_file HFILL.out HE1.out rfl HXL.out (by rw [← HLL.out]; have := HL8.out; omega))
            clear H3 hl8 hp8 hn5 HV B3
            go_cut [] (fun wx => wx = w3)
            case first =>
              go_region_law (fail)
              all_goals (
                go_wp2_with fail
                go_meet
                rfl)
            case rest =>
              obtain rfl := hcut
              go_upto_region 13 with fail
              go_region_law (fail)
              all_goals (
                by_cases hcp : cp = 1
                · obtain rfl : cp = 1 := hcp
                  obtain rfl : n2 = 1 := by have := HLE.out; omega
                  go_wp2
                  go_roundw
                  case rel => exact ⟨k + 1, _, 0, 0, by go_num, by omega, rfl, al ++ [xl], m + 1, _, HFI9.out, by have := HN2.out; omega, dat_end (by have := HN2.out; omega), HFF.out, HF5.out⟩
                  case measure => simp [intOf]; omega
                · go_wp2
                  go_roundw
                  case rel => exact ⟨k + 1, _, n2 - 1, cp - 1, by go_num, by omega, rfl, al ++ [xl], m + 1, _, HFI9.out, by have := HN2.out; omega, dat_tail HDD9.out HN2.out HLE.out hp, HFF.out, HF5.out⟩
                  case measure => simp [intOf]; omega)
    · obtain rfl : es.length = k := by omega
      by_cases hz : n2 = 0
      · subst hz
        have HGOOD := Lib.hid (newF_ok HNT.out HFILL.out (by have := HN2.out; have := HALN.out.2.2.1; omega))
        go_wp2
        go_ret2
        exact znew_good HGOOD.out HFI.out (rel_new HNT.out HFILL.out HFLL.out)
      · have HMANY := Lib.hid (newF_many HNT.out HFILL.out (by have := HN2.out; have := HALN.out.2.2.1; omega))
        have hp : 0 < n2 := by omega
        clear hz
        go_wp2
        go_ret2
        exact znew_bad HMANY.out (gw_none HFI.out.ch)
end Go.Proofs.Ytckoapfmfpmdgaa

namespace Go.Proofs.Ytckoapfmfpmdgaa
set_option linter.unusedVariables false

theorem id_same {l : List Itm} (h : (l.map (·.n)).Nodup) {i j : Itm} (hi : i ∈ l) (hj : j ∈ l) (e : i.n = j.n) : i = j := by
  induction l with
  | nil => cases hi
  | cons x l ih =>
    rw [List.map_cons, List.nodup_cons] at h
    rcases List.mem_cons.1 hi with rfl | hi2
    · rcases List.mem_cons.1 hj with rfl | hj2
      · rfl
      · exact absurd (List.mem_map.2 ⟨j, hj2, e.symm⟩) h.1
    · rcases List.mem_cons.1 hj with rfl | hj2
      · exact absurd (List.mem_map.2 ⟨i, hi2, e⟩) h.1
      · exact ih h.2 hi2 hj2
theorem ren_n (a b : List UInt8) : ∀ l : List Itm, (ren a b l).map (·.n) = l.map (·.n)
  | [] => rfl
  | i :: l => by
    rw [ren]
    split
    · rfl
    · rw [List.map_cons, List.map_cons, ren_n a b l]
theorem erase_n {l : List Itm} (h : (l.map (·.n)).Nodup) (p : List UInt8) : ((l.eraseP (is p)).map (·.n)).Nodup := (List.Sublist.map _ List.eraseP_sublist).nodup h
theorem Sub2.refl {t : St} (h : (t.l.map (·.n)).Nodup) : Sub2 t t := ⟨rfl, fun i hi => ⟨i, hi, rfl, rfl⟩, h⟩
theorem drop_sub2 {t : St} (h : (t.l.map (·.n)).Nodup) (p : List UInt8) (d : Bool) : Sub2 t (dropT t p d).2 := by
  unfold dropT
  repeat' split
  all_goals first
    | exact Sub2.refl h
    | exact ⟨rfl, fun i hi => ⟨i, erase_mem hi, rfl, rfl⟩, erase_n h p⟩
theorem ren_it {a b : List UInt8} {l : List Itm} : ∀ i ∈ ren a b l, ∃ j ∈ l, j.n = i.n ∧ j.d = i.d := fun i hi => by
  rcases mem_ren hi with ⟨j, hj, _, e⟩ | h
  · exact ⟨j, hj, by rw [e], by rw [e]⟩
  · exact ⟨i, h, rfl, rfl⟩
theorem move_sub2 {t : St} (h : (t.l.map (·.n)).Nodup) (a b : List UInt8) : Sub2 t (moveT t a b).2 := by
  unfold moveT
  repeat' split
  all_goals first
    | exact Sub2.refl h
    | exact ⟨rfl, ren_it, by rw [ren_n]; exact h⟩
    | exact ⟨rfl, fun i hi => by obtain ⟨j, hj, e⟩ := ren_it i hi; exact ⟨j, erase_mem hj, e⟩, by rw [ren_n]; exact erase_n h b⟩
theorem find_item {l : List Itm} {p : List UInt8} (h : (findT l p).2.2 = 0) : ∃ i, look l p = some i ∧ findT l p = (i.n, i.d, 0) := by
  unfold findT at h ⊢
  split at h
  · rename_i hn
    rw [if_pos hn]
    split at h
    · rename_i h0
      rw [if_pos h0]
      cases hk : look l p with
      | none => rw [hk] at h; simp at h
      | some i => exact ⟨i, rfl, rfl⟩
    · rename_i h0
      exact absurd h h0
  · simp at h
/-- What Unlink takes out of the tree. -/
theorem drop_gone {t : St} (ok : Ok t.l) (h : (t.l.map (·.n)).Nodup) {p : List UInt8} (h0 : (dropT t p false).1 = 0) : ∃ i ∈ t.l, i.d = false ∧ (findT t.l p).1 = i.n ∧ ∀ j ∈ (dropT t p false).2.l, j.n ≠ i.n := by
  unfold dropT at h0 ⊢
  by_cases hf : (findT t.l p).2.2 = 0
  · rw [if_pos hf] at h0 ⊢
    obtain ⟨i, hk, he⟩ := find_item hf
    rw [he] at h0 ⊢
    simp only at h0 ⊢
    cases hd : i.d with
    | true => rw [hd] at h0; simp at h0
    | false =>
      refine ⟨i, look_mem hk, hd, rfl, ?_⟩
      simp
      intro j hj e
      have : j = i := id_same h (erase_mem hj) (look_mem hk) e
      exact erase_not ok j hj (by rw [this, look_path hk])
  · rw [if_neg hf] at h0; exact absurd h0 hf
/-- What Rename takes out of the tree. -/
theorem move_gone {t : St} (ok : Ok t.l) (h : (t.l.map (·.n)).Nodup) {a b : List UInt8} (h0 : (moveT t a b).1.2 = 0) : (moveT t a b).1.1 < 0 ∨ ∃ i ∈ t.l, i.d = false ∧ (moveT t a b).1.1 = i.n ∧ ∀ j ∈ (moveT t a b).2.l, j.n ≠ i.n := by
  unfold moveT at h0 ⊢
  by_cases hf : (findT t.l a).2.2 = 0
  · rw [if_pos hf] at h0 ⊢
    split at h0
    · simp at h0
    · rename_i h1
      rw [if_neg h1]
      split at h0
      · rename_i h2
        rw [if_pos h2]
        split at h0
        · rename_i h3
          rw [if_pos h3]
          split at h0
          · rename_i h4
            rw [if_pos h4]
            exact .inl (by show (-1 : Int) < 0; decide)
          · rename_i h4
            rw [if_neg h4]
            cases hk : look t.l b with
            | none => exact .inl (by show (-1 : Int) < 0; decide)
            | some i =>
              rw [hk] at h0
              simp only at h0 ⊢
              cases hd : i.d with
              | true => rw [hd] at h0; simp at h0
              | false =>
                refine .inr ⟨i, look_mem hk, hd, by simp, ?_⟩
                simp
                intro j hj e
                rcases mem_ren hj with ⟨i', hi', _, e'⟩ | hj'
                · rw [e'] at e
                  have : i' = i := id_same h (erase_mem hi') (look_mem hk) e
                  exact erase_not ok i' hi' (by rw [this, look_path hk])
                · have : j = i := id_same h (erase_mem hj') (look_mem hk) e
                  exact erase_not ok j hj' (by rw [this, look_path hk])
        · rename_i h3; exact absurd h0 h3
      · simp at h0
  · rw [if_neg hf] at h0; exact absurd h0 hf
/-! ### Open -/
theorem abv_vals (l : List Itm) (p : List UInt8) : abv l p = 0 ∨ abv l p = 65282 ∨ abv l p = 65300 := by
  unfold abv
  split
  · exact .inl rfl
  · split
    · exact .inr (.inl rfl)
    · split
      · exact .inl rfl
      · exact .inr (.inr rfl)
/-- Where mayReach says no, Open does. -/
theorem open_no {s : Fs} {p : List UInt8} (h : mrF s.t p ≠ 0) : openF s p = (mrF s.t p, s) := by
  unfold mrF at h ⊢
  unfold openF
  cases hn : nameB p with
  | false =>
    have e1 : findT s.t.l p = (-1, false, 65282) := by unfold findT; rw [hn]; rfl
    have e2 : makeT s.t p false = ((-1, 65282), s.t) := by unfold makeT; rw [hn]; rfl
    rw [e1, e2]
    simp
  | true =>
    rcases abv_vals s.t.l p with h0 | h0 | h0
    · cases hk : look s.t.l p with
      | none =>
        have e1 : findT s.t.l p = (-1, false, 65282) := by unfold findT; rw [hn, h0, hk]; rfl
        rw [e1] at h
        simp only at h
        have e2 : makeT s.t p false = if 8 ≤ s.t.l.length then ((-1, 65308), s.t) else ((s.t.nx, 0), ⟨s.t.l ++ [⟨p, false, s.t.nx⟩], s.t.nx + 1⟩) := by unfold makeT; rw [hn, h0, hk]; simp
        rw [e2] at h
        by_cases h8 : 8 ≤ s.t.l.length
        · rw [if_pos h8] at h; simp at h
        · rw [if_neg h8] at h; simp at h
      | some i =>
        have e1 : findT s.t.l p = (i.n, i.d, 0) := by unfold findT; rw [hn, h0, hk]; rfl
        rw [e1] at h ⊢
        cases hd : i.d with
        | true => simp
        | false => rw [hd] at h; simp at h
    · have e1 : findT s.t.l p = (-1, false, 65282) := by unfold findT; rw [hn, h0]; rfl
      have e2 : makeT s.t p false = ((-1, 65282), s.t) := by unfold makeT; rw [hn, h0]; rfl
      rw [e1, e2, h0]
      simp
    · have e1 : findT s.t.l p = (-1, false, 65300) := by unfold findT; rw [hn, h0]; rfl
      rw [e1, h0]
      simp
/-- Where it says yes: the file is there, or there is none and what Make says. -/
theorem open_yes {s : Fs} {p : List UInt8} (h : mrF s.t p = 0) : nameB p = true ∧ abv s.t.l p = 0 ∧
    ((∃ i, look s.t.l p = some i ∧ i.d = false ∧ findT s.t.l p = (i.n, false, 0)) ∨
     ((findT s.t.l p).2.2 ≠ 0 ∧ ((8 ≤ s.t.l.length ∧ makeT s.t p false = ((-1, 65308), s.t)) ∨ makeT s.t p false = ((s.t.nx, 0), ⟨s.t.l ++ [⟨p, false, s.t.nx⟩], s.t.nx + 1⟩)))) := by
  unfold mrF at h
  cases hn : nameB p with
  | false =>
    have e1 : findT s.t.l p = (-1, false, 65282) := by unfold findT; rw [hn]; rfl
    have e2 : makeT s.t p false = ((-1, 65282), s.t) := by unfold makeT; rw [hn]; rfl
    rw [e1, e2] at h
    simp at h
  | true =>
    rcases abv_vals s.t.l p with h0 | h0 | h0
    · refine ⟨rfl, h0, ?_⟩
      cases hk : look s.t.l p with
      | none =>
        have e1 : findT s.t.l p = (-1, false, 65282) := by unfold findT; rw [hn, h0, hk]; rfl
        have e2 : makeT s.t p false = if 8 ≤ s.t.l.length then ((-1, 65308), s.t) else ((s.t.nx, 0), ⟨s.t.l ++ [⟨p, false, s.t.nx⟩], s.t.nx + 1⟩) := by unfold makeT; rw [hn, h0, hk]; simp
        rw [e1]
        refine .inr ⟨by simp, ?_⟩
        rw [e2]
        split
        · rename_i h8; exact .inl ⟨h8, rfl⟩
        · exact .inr rfl
      | some i =>
        have e1 : findT s.t.l p = (i.n, i.d, 0) := by unfold findT; rw [hn, h0, hk]; rfl
        rw [e1] at h ⊢
        cases hd : i.d with
        | true => rw [hd] at h; simp at h
        | false => exact .inl ⟨i, rfl, hd, rfl⟩
    · have e1 : findT s.t.l p = (-1, false, 65282) := by unfold findT; rw [hn, h0]; rfl
      have e2 : makeT s.t p false = ((-1, 65282), s.t) := by unfold makeT; rw [hn, h0]; rfl
      rw [e1, e2] at h
      simp at h
    · have e1 : findT s.t.l p = (-1, false, 65300) := by unfold findT; rw [hn, h0]; rfl
      rw [e1] at h
      simp at h
/-! ### What follows of the relation -/
section
variable {c : Cs} {s : Fs}
theorem Rel.bnd (R : Rel c s) (m : FOm s) : Bnd c :=
  ⟨fun n x hx => (by have := (R.fk n x hx).1; have := R.b2; omega), fun i x hx => (by have := (R.ok i x hx).1; have := R.b1; omega), fun fd i hd => (by rw [R.d] at hd; exact (ofI_lt m hd).1)⟩
theorem Rel.tok (R : Rel c s) (k : FOk s) : TOk c.t := by
  rw [R.t]
  exact ⟨k.ok, k.n8, k.nx, R.b2⟩
theorem Rel.fg (R : Rel c s) {n : Nat} {c' : Cs} (h : FgP c n c') : Rel c' s := by
  rcases h with rfl | ⟨rfl, h1, x, h2, h3⟩
  · exact R
  · exact R.forget h1 h2 h3
theorem Rel.clo (R : Rel c s) (m : FOm s) {fd i fl : Nat} (hi : ofI s fd = some i) {c' : Cs} (h : CloP c fd i fl c') : Rel c' (closeF s fd).2 := by
  have hl := ofI_lt m hi
  have e : (closeF s fd).2 = { s with fd := s.fd.set fd (-1) } := by unfold closeF; rw [hi]
  rw [e]
  have R1 := R.close m hl.1
  rcases h with rfl | ⟨h1, h2⟩
  · exact R1
  · exact (R1.dropo (i := i) (fun q => by rw [← R1.d]; exact h1 q)).fg h2
theorem setM_id {α : Type} {m : Nat → Option α} {k : Nat} {x : Option α} (h : m k = x) : setM m k x = m := by
  funext j
  unfold setM
  split
  · rename_i e; rw [e, h]
  · rfl
end
end Go.Proofs.Ytckoapfmfpmdgaa
