/-
  Parts of the proof, joined: FileK, FileN, TreeX.
-/
import Derived.Test.YtckoapfmfpmdgaaMp13
import Derived.Test.YtckoapfmfpmdgaaMp02
import Derived.Test.YtckoapfmfpmdgaaMp09

namespace Go.Proofs.Ytckoapfmfpmdgaa
open Go.ChangeShapes Go.WideShapes Go.ChangeAt Go.RowKit Go.Joins
set_option linter.unusedVariables false
set_option linter.unusedSimpArgs false

theorem ok_sml {l : List Itm} (h : Ok l) : Sml l := by
  intro i hi
  have h1 := (name_size (s := bs i.p) (by rw [bs_data]; exact h.nm i hi)).1
  rw [bs_size] at h1
  omega
section
variable {bz : Nat} {tau : Nat → Nat} {G : Gd} {w : World} {h : Nat} {s : Fs}
theorem FR.treeTo (H : FR bz tau G w h s) {w' : World} {t' : St} (k : RTo bz w G.g G.sl t' w') : FTo bz tau w h { s with t := t' } w' := by
  obtain ⟨c, t1, G1, k1, _, _, _, _, _, n1⟩ := H.tree2 k
  exact ⟨c, t1, G1, k1, n1⟩
set_option maxRecDepth 100000 in
set_option maxHeartbeats 8000000 in
theorem rname_file (H : FR bz tau G w h s) (ok : FOk s) (op : Int) (a b : ByteArray) (ha : a.size ≤ 140737488351232) (hb : b.size ≤ 140737488351232) (hnx : s.t.nx ≤ 1000000) :
    Calls Try.prog 67 #[.pointer (some ⟨h, 0, none⟩), .int .i64 op, .string a, .string b] w fun e w' => e = .returned (.int .u16 (nameF s op a.data.toList b.data.toList).1) ∧ FTo bz tau w h (nameF s op a.data.toList b.data.toList).2 w' := by
  have HH := Lib.hid H
  have c0 : w.cell? ⟨h, 0, none⟩ = some (.pointer (some ⟨G.g, 0, none⟩)) := H.hd.cell 0
  have hsm := ok_sml ok.ok
  unfold nameF
  by_cases e33 : op = 33
  · subst e33
    rw [if_pos rfl]
    have DR := rdrop_any (show Hid _ from H.tr) hsm a ha false
    obtain ⟨m, hm⟩ : ∃ m, m = dropT s.t a.data.toList false := ⟨_, rfl⟩
    rw [← hm] at DR ⊢
    obtain ⟨m1, t'⟩ := m
    clear H hm
    go_enter Try.func67, Try.ntmps67
    go_wp2_with (go_at_call 49; with_reducible refine DR.mono ?_; rintro e wy ⟨rfl, RTO⟩)
    go_ret
    exact ⟨rfl, HH.out.treeTo RTO⟩
  have n33 : (op == 33) = false := beq_false_of_ne e33
  rw [if_neg e33]
  by_cases e34 : op = 34
  · subst e34
    rw [if_pos rfl]
    have DR := rmove_any (show Hid _ from H.tr) a b ha hb
    obtain ⟨m, hm⟩ : ∃ m, m = moveT s.t a.data.toList b.data.toList := ⟨_, rfl⟩
    rw [← hm] at DR ⊢
    obtain ⟨⟨m1, m2⟩, t'⟩ := m
    simp only [mV] at DR
    clear H hm
    go_enter Try.func67, Try.ntmps67
    go_wp2_with (go_at_call 50; with_reducible refine DR.mono ?_; rintro e wy ⟨rfl, RTO⟩)
    go_ret
    exact ⟨rfl, HH.out.treeTo RTO⟩
  have n34 : (op == 34) = false := beq_false_of_ne e34
  rw [if_neg e34]
  by_cases e36 : op = 36
  · subst e36
    rw [if_neg (by decide), if_pos rfl]
    have DR := rdrop_any (show Hid _ from H.tr) hsm a ha true
    obtain ⟨m, hm⟩ : ∃ m, m = dropT s.t a.data.toList true := ⟨_, rfl⟩
    rw [← hm] at DR ⊢
    obtain ⟨m1, t'⟩ := m
    clear H hm
    go_enter Try.func67, Try.ntmps67
    go_wp2_with (go_at_call 49; with_reducible refine DR.mono ?_; rintro e wy ⟨rfl, RTO⟩)
    go_ret
    exact ⟨rfl, HH.out.treeTo RTO⟩
  have n36 : (op == 36) = false := beq_false_of_ne e36
  by_cases e37 : op = 37
  · subst e37
    rw [if_neg (by decide), if_neg (by decide), if_pos rfl]
    have DR := rmany_any H.tr hsm a ha
    obtain ⟨m, hm⟩ : ∃ m, m = manyT s.t.l a.data.toList := ⟨_, rfl⟩
    rw [← hm] at DR ⊢
    clear H hm
    go_enter Try.func67, Try.ntmps67
    go_wp2_with (go_at_call 51; with_reducible refine DR.mono ?_; rintro e wy ⟨rfl, GX⟩)
    go_ret
    exact ⟨rfl, FTo.of_gw HH.out GX⟩
  have n37 : (op == 37) = false := beq_false_of_ne e37
  by_cases e35 : op = 35
  case neg =>
    have n35 : (op == 35) = false := beq_false_of_ne e35
    rw [if_neg e35, if_neg e36, if_neg e37]
    clear H
    go_enter Try.func67, Try.ntmps67
    go_wp2
    go_ret
    exact ⟨rfl, FTo.of_gw HH.out (Gw.refl _)⟩
  subst e35
  rw [if_pos rfl]
  have hnx0 := ok.nx
  have MK := rmake_any (show Hid _ from H.tr) a ha true hnx0 (by omega)
  obtain ⟨m, hm⟩ : ∃ m, m = makeT s.t a.data.toList true := ⟨_, rfl⟩
  rw [← hm] at MK ⊢
  obtain ⟨⟨m1, m2⟩, t'⟩ := m
  simp only [mV] at MK
  simp only
  by_cases h5 : m2 = 0
  case neg =>
    rw [if_neg h5]
    have e5 : (m2 == 0) = false := beq_false_of_ne h5
    clear H hm h5
    go_enter Try.func67, Try.ntmps67
    go_upto_region 9 with (go_at_call 48; with_reducible refine MK.mono ?_; rintro e wy ⟨rfl, RTO⟩)
    go_loopw [] (fun wr => wr = wy) (fun _ => 0)
    case atStart => rfl
    case round =>
      have hw : wr = wy := hrel
      subst hw
      go_wp2
      go_ret
      exact ⟨rfl, HH.out.treeTo RTO⟩
  subst h5
  rw [if_pos rfl]
  have hm1 : m1 = s.t.nx := by
    have := make0 (s := s.t) (p := a.data.toList) (d := true) (by rw [← hm])
    rw [← hm] at this
    exact this
  obtain ⟨f, hf⟩ : ∃ f : Nat, m1 = f := ⟨m1.toNat, by omega⟩
  have hfb : f ≤ 1000000 := by omega
  have hdl : s.d.length ≤ f := by have := ok.dn; omega
  clear hm1
  subst hf
  have HPD : Hid (padD s.d (f : Int) = s.d ++ List.replicate (f + 1 - s.d.length) []) := by show _ = _; unfold padD; congr 2; omega
  clear H hm
  go_enter Try.func67, Try.ntmps67
  go_upto_region 9 with (go_at_call 48; with_reducible refine MK.mono ?_; rintro e wy ⟨rfl, RTO⟩)
  obtain ⟨c, t1, G1, k, _, _, _, _, _, n1⟩ := HH.out.tree2 RTO
  have HW0 : Hid (Way bz tau w h { s with t := t', d := s.d ++ List.replicate 0 [] } wy) := by
    show Way _ _ _ _ _ _
    rw [List.replicate_zero, List.append_nil]
    exact ⟨c, t1, G1, k, n1⟩
  clear c k n1 RTO MK
  obtain ⟨i0, hi1, hi2, hi3, hi4⟩ := info_bs
  have HI := Lib.hid (And.intro hi1 (And.intro hi2 (And.intro hi3 hi4)))
  have hm8 : Hid (maxLen = 9223372036854775807) := rfl
  clear hi1 hi2 hi3 hi4
  go_loopw [] (fun wr => ∃ q : Nat, q ≤ f + 1 - s.d.length ∧ Hid (Way bz tau w h { s with t := t', d := s.d ++ List.replicate q [] } wr)) (fun wr => f + 1 - dLen wr h)
  case atStart => exact ⟨0, by omega, HW0⟩
  case round =>
    clear HW0
    obtain ⟨q, hq, HW⟩ := hrel
    obtain ⟨tau1, G1, H1, n1⟩ := HW.out.ex
    have HZ := Lib.hid H1
    obtain ⟨Ad, cd, hdv0⟩ := own_form1 H1.dr
    obtain ⟨D, hD⟩ : ∃ D, D = s.d.length + q := ⟨_, rfl⟩
    have hDl : (s.d ++ List.replicate q ([] : List UInt8)).length = D := by simp [hD]
    have hdv : G1.dv = .slice Ad D cd := by rw [hdv0]; show Value.slice Ad (s.d ++ List.replicate q ([] : List UInt8)).length cd = _; rw [hDl]
    have c1 : wr.cell? ⟨h, 1, none⟩ = some (.slice Ad D cd) := by rw [← hdv]; exact H1.hd.cell 1
    have f1 := H1.hd.free 1
    have HDV := Lib.hid hdv
    have HDD := Lib.hid hD
    have HDL := Lib.hid hDl
    clear H1 hdv0 hdv hD hDl
    by_cases hDf : D ≤ f
    · have hDf' : decide ((D : Int) ≤ (f : Int)) = true := decide_eq_true (by omega)
      have OW : Hid ((wr.alloc (.cells #[.slice none 0 0] 52)).ownsRow bz 52 1 (.slice Ad D cd) D G1.ds) := by
        show World.ownsRow _ _ _ _ _ _ _
        rw [← HDV.out]
        have := HZ.out.dr
        rw [show ({ t := t', d := s.d ++ List.replicate q [], o := s.o, fd := s.fd } : Fs).d.length = D from HDL.out] at this
        exact own_keep this (fun b _ hb => Below.heap_alloc wr _ b hb)
      have HBZ : Hid (bz ≤ (wr.alloc (.cells #[.slice none 0 0] 52)).heap.size) := Nat.le_trans HZ.out.hz (alloc_size wr _)
      have NOH : Hid (Value.ownBlock (.slice Ad D cd) ≠ some h) := fun e => by
        rw [← HDV.out] at e
        have := HZ.out.td h e
        rw [HZ.out.th] at this
        cases this
      have HLT : Hid (h < (wr.alloc (.cells #[.slice none 0 0] 52)).heap.size) := Nat.lt_of_lt_of_le (lt_cell c1) (alloc_size wr _)
      go_wp2_with (at_builtin; refine wpList_append_lies _ rfl _ _ _ rfl bz 52 i0 _ 1 24 Try.underlying64 HI.out.1 HI.out.2.1 HI.out.2.2.1 HI.out.2.2.2 rfl (by omega) (.slice Ad D cd) D G1.ds rfl OW.out ⟨wr.heap.size, 0, none⟩ 1 1 [.slice none 0 0] rfl rfl (World.news_of_block (heap_alloc_new wr _)) (by simp [Value.oneCell']) (by omega) (by have := hm8.out; omega) (by omega) HBZ.out _ rfl ?_; intro g1 cc wp own1 gr1 at1 hlt1; have kz := gr1.block h HLT.out (fun e => NOH.out e.symm); have k4 : wp.cell? ⟨h, 1, none⟩ = some (.slice Ad D cd) := ((World.cell?_of_block (a := ⟨h, 1, none⟩) kz).trans ((Gw.alloc wr _).cell c1)); have k4f : wp.frozen? ⟨h, 1, none⟩ = false := ((World.frozen?_of_block (a := ⟨h, 1, none⟩) kz).trans (((Gw.alloc wr _).frz c1).trans f1)))
      have gr2 := gr1
      have at2 := at1
      have own2 := own1
      rw [← HDV.out] at gr2 at2
      have PN : FTo bz tau1 wr h { s with t := t', d := s.d ++ List.replicate q [] ++ [[]] } (wp.setCell ⟨h, 1, none⟩ (.slice (some ⟨g1, 0, none⟩) (D + 1) cc)) := by
        have := HZ.out.pad (g1 := g1) (cap := cc) (Gw.alloc wr _) gr2 at2 (by show World.ownsRow _ _ _ _ (.slice _ ((s.d ++ List.replicate q ([] : List UInt8)).length + 1) _) ((s.d ++ List.replicate q ([] : List UInt8)).length + 1) _; rw [HDL.out]; exact own2)
        rw [show ({ t := t', d := s.d ++ List.replicate q [], o := s.o, fd := s.fd } : Fs).d.length = D from HDL.out] at this
        exact this
      rw [List.append_assoc, ← List.replicate_succ'] at PN
      have HS := FTo.step HW.out.ch n1 PN
      have HW2 : Hid (Way bz tau w h { s with t := t', d := s.d ++ List.replicate (q + 1) [] } (wp.setCell ⟨h, 1, none⟩ (.slice (some ⟨g1, 0, none⟩) (D + 1) cc))) := ⟨HS.ch, HS.ex⟩
      have hq2 : q + 1 ≤ f + 1 - s.d.length := by have := HDD.out; omega
      have m1 : dLen wr h = D := by unfold dLen; rw [c1]; rfl
      obtain ⟨t3, G3, H3, _⟩ := HS.ex
      have m2 : dLen (wp.setCell ⟨h, 1, none⟩ (.slice (some ⟨g1, 0, none⟩) (D + 1) cc)) h = D + 1 := by
        unfold dLen
        obtain ⟨A3, c3, hd3⟩ := own_form1 H3.dr
        have c4 : (wp.setCell ⟨h, 1, none⟩ (.slice (some ⟨g1, 0, none⟩) (D + 1) cc)).cell? ⟨h, 1, none⟩ = some G3.dv := H3.hd.cell 1
        rw [c4, hd3]
        show (s.d ++ List.replicate (q + 1) ([] : List UInt8)).length = D + 1
        have := HDL.out
        simp at this ⊢
        omega
      have HM12 := Lib.hid (And.intro m1 m2)
      clear gr1 at1 own1 gr2 at2 own2 PN HS H3 m1 m2 k4 k4f kz
      go_roundw
      case rel => exact ⟨q + 1, hq2, HW2.out⟩
      case measure => rw [HM12.out.1]; first | (rw [HM12.out.2]; omega) | (simp only; rw [HM12.out.2]; omega)
    · have hDf' : decide ((D : Int) ≤ (f : Int)) = false := decide_eq_false (by omega)
      have hq' : q = f + 1 - s.d.length := by have := HDD.out; omega
      subst hq'
      go_wp2
      go_ret
      rw [HPD.out]
      exact ⟨rfl, HW.out.end_⟩
end
end Go.Proofs.Ytckoapfmfpmdgaa

namespace Go.Proofs.Ytckoapfmfpmdgaa
open Go.ChangeShapes Go.WideShapes Go.ChangeAt Go.RowKit Go.Joins
set_option linter.unusedVariables false
set_option linter.unusedSimpArgs false

/-- The bytes of the first i entries, and how many files are among them. -/
def fillTo (es : List (List UInt8 × Bool)) (data : List (List UInt8)) : Nat → Option (List (List UInt8) × Nat)
  | 0 => some ([], 0)
  | i + 1 => match fillTo es data i, es[i]? with
    | some (a, k), some e => if e.2 = true then some (a ++ [[]], k) else match data[k]? with
      | none => none
      | some x => if 8 < x.length then none else some (a ++ [x], k + 1)
    | _, _ => none
theorem fill_none {es : List (List UInt8 × Bool)} {data : List (List UInt8)} {i : Nat} (h : fillTo es data i = none) : ∀ j, fillTo es data (i + j) = none
  | 0 => h
  | j + 1 => by
    show fillTo es data ((i + j) + 1) = none
    rw [fillTo, fill_none h j]
theorem fill_len {es : List (List UInt8 × Bool)} {data : List (List UInt8)} : ∀ {i : Nat} {a : List (List UInt8)} {k : Nat}, fillTo es data i = some (a, k) → a.length = i ∧ k ≤ i ∧ k ≤ data.length ∧ ∀ l ∈ a, l.length ≤ 8
  | 0, a, k, h => by cases h; exact ⟨rfl, Nat.le_refl _, Nat.zero_le _, fun l hl => by cases hl⟩
  | i + 1, a, k, h => by
    rw [fillTo] at h
    cases hp : fillTo es data i with
    | none => rw [hp] at h; simp at h
    | some x =>
      obtain ⟨a0, k0⟩ := x
      obtain ⟨h1, h2, h3, h4⟩ := fill_len hp
      cases he : es[i]? with
      | none => rw [hp, he] at h; simp at h
      | some e =>
        rw [hp, he] at h
        simp only at h
        split at h
        · cases h
          refine ⟨by simp [h1], by omega, h3, fun l hl => ?_⟩
          rcases List.mem_append.1 hl with hl | hl
          · exact h4 l hl
          · rw [List.mem_singleton.1 hl]; exact Nat.zero_le _
        · cases hd : data[k0]? with
          | none => rw [hd] at h; simp at h
          | some x =>
            rw [hd] at h
            simp only at h
            split at h
            · cases h
            · cases h
              have := (List.getElem?_eq_some_iff.1 hd).1
              refine ⟨by simp [h1], by omega, by omega, fun l hl => ?_⟩
              rcases List.mem_append.1 hl with hl | hl
              · exact h4 l hl
              · rw [List.mem_singleton.1 hl]; omega
/-- What NewFiles answers: a number, or a file system. -/
def newF (es : List (List UInt8 × Bool)) (data : List (List UInt8)) : Int ⊕ Fs := match newT es with
  | none => .inl 11
  | some t => match fillTo es data es.length with
    | none => .inl 12
    | some (a, k) => if k = data.length then .inr ⟨t, a, [], [-1, -1, -1, -1]⟩ else .inl 12
theorem newF_bad {es : List (List UInt8 × Bool)} {data : List (List UInt8)} {t : St} (ht : newT es = some t) {i : Nat} (hi : i ≤ es.length) (h : fillTo es data i = none) : newF es data = .inl 12 := by
  unfold newF
  rw [ht, show es.length = i + (es.length - i) by omega, fill_none h]
theorem newF_many {es : List (List UInt8 × Bool)} {data : List (List UInt8)} {t : St} (ht : newT es = some t) {a : List (List UInt8)} {k : Nat} (h : fillTo es data es.length = some (a, k)) (hk : k ≠ data.length) : newF es data = .inl 12 := by
  unfold newF
  rw [ht, h]
  simp only
  rw [if_neg hk]
theorem newF_ok {es : List (List UInt8 × Bool)} {data : List (List UInt8)} {t : St} (ht : newT es = some t) {a : List (List UInt8)} {k : Nat} (h : fillTo es data es.length = some (a, k)) (hk : k = data.length) : newF es data = .inr ⟨t, a, [], [-1, -1, -1, -1]⟩ := by
  unfold newF
  rw [ht, h]
  simp only
  rw [if_pos hk]
/-- Bytes that are handed in, by number. -/
def DatAt (bz : Nat) (w : World) (v : Value) (data : List (List UInt8)) : Prop := ∃ A cap, v = .slice A data.length cap ∧
  ∀ (k : Nat) l, data[k]? = some l → ∃ gd off x, A = some ⟨gd, off, none⟩ ∧ w.cell? ⟨gd, off + k, none⟩ = some x ∧ BtAt bz (fun _ => 0) w x l
theorem BtAt.gw {bz : Nat} {tau : Nat → Nat} {w w' : World} {x : Value} {l : List UInt8} (H : BtAt bz tau w x l) (K : Gw w w') : BtAt bz tau w' x l := H.on fun b hb ht => ⟨K.block b hb, ht⟩
/-- On the way: head, tree, the row of bytes. -/
structure Nv (bz : Nat) (W : World) (h g : Nat) (sl dv : Value) (t : St) (a : List (List UInt8)) (ds : List Value) (fd : List Int) (w : World) : Prop where
  hd : Has w h 118 (hC g dv (.slice none 0 0) fd)
  tr : RT W.heap.size w g sl t
  gh : g < h
  sh : ∀ b, sl.ownBlock = some b → W.heap.size ≤ b ∧ b < h
  dr : w.ownsRow (h + 1) 52 1 dv a.length ds
  by_ : ∀ (j : Nat) x l, ds[j]? = some x → a[j]? = some l → BtAt bz (fun _ => 0) w x l
  gw : Gw W w
section
variable {bz : Nat} {W w : World} {h g : Nat} {sl dv : Value} {t : St} {a : List (List UInt8)} {ds : List Value} {fd : List Int}
theorem Nv.start {w1 : World} {g : Nat} {sl : Value} {t : St} (K : Gw W w1) (R : RT W.heap.size w1 g sl t) (hs : ∀ b, sl.ownBlock = some b → W.heap.size ≤ b) :
    Nv bz W w1.heap.size g sl (.slice none 0 0) t [] [] [0, 0, 0, 0] (w1.alloc (.cells (hC g (.slice none 0 0) (.slice none 0 0) [0, 0, 0, 0]) 118)) := by
  have G1 := Gw.alloc w1 (.cells (hC g (.slice none 0 0) (.slice none 0 0) [0, 0, 0, 0]) 118)
  have hl : ∀ b, sl.ownBlock = some b → b < w1.heap.size := fun b hb => (own_ge R.row b hb).2
  refine ⟨Has.new _ _ _, R.same (fun b hb => ?_), R.hd.lt, fun b hb => ⟨hs b hb, hl b hb⟩, World.ownsRow_nil _ _ _ 1, fun j x l hx => by simp at hx, K.trans G1⟩
  rcases hb with rfl | hb
  · exact G1.block _ R.hd.lt
  · exact G1.block b (hl b hb)
theorem Nv.len (H : Nv bz W h g sl dv t a ds fd w) : ds.length = a.length := by have := H.dr.1; rw [Nat.mul_one] at this; exact this
theorem Nv.wh (H : Nv bz W h g sl dv t a ds fd w) : W.heap.size ≤ h := by have := H.tr.hB; have := H.gh; omega
theorem Nv.dvh (H : Nv bz W h g sl dv t a ds fd w) : ∀ b, dv.ownBlock = some b → h + 1 ≤ b ∧ b < w.heap.size := own_ge H.dr
/-- Nothing but the head, and what is behind it, has changed. -/
theorem Nv.keep (H : Nv bz W h g sl dv t a ds fd w) (hbz : bz ≤ W.heap.size) {w' : World} (os : w'.os = w.os) (ou : w'.output = w.output) (hz : w.heap.size ≤ w'.heap.size) (q : ∀ c, c < h → w'.heap[c]? = w.heap[c]?) :
    RT W.heap.size w' g sl t ∧ (∀ (j : Nat) x l, ds[j]? = some x → a[j]? = some l → BtAt bz (fun _ => 0) w' x l) ∧ Gw W w' := by
  refine ⟨H.tr.same (fun b hb => ?_), fun j x l hx hl => (H.by_ j x l hx hl).on fun b hb ht => ⟨?_, ht⟩, ⟨os.trans H.gw.os, rfl, ou.trans H.gw.output, Nat.le_trans H.gw.size hz, fun k hk => ?_⟩⟩
  · rcases hb with rfl | hb
    · exact q _ H.gh
    · exact q b (H.sh b hb).2
  · rcases ht with ht | ht
    · have := H.wh
      exact q b (by omega)
    · cases ht
  · have := H.wh
    exact (q k (by omega)).trans (H.gw.block k hk)
theorem Nv.add (H : Nv bz W h g sl dv t a ds fd w) (hbz : bz ≤ W.heap.size) {w1 w2 : World} {g1 cap : Nat} (K : Gw w w1) (gr : w1.grownBy w2 dv.ownBlock) (at_ : dv.ownBlock = some g1 ∨ g1 = w1.heap.size)
    (own : w2.ownsRow (h + 1) 52 1 (.slice (some ⟨g1, 0, none⟩) (a.length + 1) cap) (a.length + 1) (ds ++ [.slice none 0 0])) :
    Nv bz W h g sl (.slice (some ⟨g1, 0, none⟩) (a.length + 1) cap) t (a ++ [[]]) (ds ++ [.slice none 0 0]) fd (w2.setCell ⟨h, 1, none⟩ (.slice (some ⟨g1, 0, none⟩) (a.length + 1) cap)) := by
  have hl := H.hd.lt
  have nh : dv.ownBlock ≠ some h := fun e => by have := (H.dvh h e).1; omega
  have ng : g1 ≠ h := fun e => by
    rcases at_ with h1 | h1
    · exact nh (by rw [h1, e])
    · have := K.size; omega
  have e2 : ∀ c, c ≤ h → w2.heap[c]? = w.heap[c]? := fun c hc => (gr.block c (by have := K.size; omega) (fun e => by have := (H.dvh c e.symm).1; omega)).trans (K.block c (by omega))
  have e3 : ∀ c, c ≠ h → (w2.setCell ⟨h, 1, none⟩ (.slice (some ⟨g1, 0, none⟩) (a.length + 1) cap)).heap[c]? = w2.heap[c]? := fun c hc => set_other (p := ⟨h, 1, none⟩) hc
  obtain ⟨k1, k2, k3⟩ := H.keep hbz (w' := w2.setCell ⟨h, 1, none⟩ (.slice (some ⟨g1, 0, none⟩) (a.length + 1) cap)) (gr.os.trans K.os) (gr.output.trans K.output) (by have := K.size; have := gr.size; simp; omega) (fun c hc => (e3 c (by omega)).trans (e2 c (by omega)))
  have h1 : Has w2 h 118 (hC g dv (.slice none 0 0) fd) := H.hd.same (e2 h (Nat.le_refl _))
  have h2 := h1.put 1 (.slice (some ⟨g1, 0, none⟩) (a.length + 1) cap)
  rw [hC_setdv] at h2
  refine ⟨h2, k1, H.gh, H.sh, ?_, fun j x l hx hl => ?_, k3⟩
  · rw [List.length_append]
    exact own_same own (fun b hb => e3 b (fun e => ng (by have : g1 = b := by simpa [Value.ownBlock] using hb
                                                          rw [this]; exact e)))
  · by_cases hj : j < a.length
    · rw [List.getElem?_append_left (by rw [H.len]; exact hj)] at hx
      rw [List.getElem?_append_left hj] at hl
      exact k2 j x l hx hl
    · rw [List.getElem?_append_right (by rw [H.len]; omega), H.len] at hx
      rw [List.getElem?_append_right (by omega)] at hl
      have hj0 : j - a.length = 0 := by
        have := (List.getElem?_eq_some_iff.1 hl).1
        simp at this; omega
      rw [hj0] at hx hl
      simp at hx hl
      subst hx hl
      exact ⟨none, 0, rfl, Nat.le_refl _, Nat.zero_le _, fun j c hj => by simp at hj⟩
/-- The last of the row is stored. -/
theorem Nv.put {g1 cap : Nat} {x : Value} {l : List UInt8} (H : Nv bz W h g sl (.slice (some ⟨g1, 0, none⟩) (a.length + 1) cap) t (a ++ [[]]) (ds ++ [.slice none 0 0]) fd w) (hbz : bz ≤ W.heap.size) (hx : BtAt bz (fun _ => 0) W x l) :
    Nv bz W h g sl (.slice (some ⟨g1, 0, none⟩) (a.length + 1) cap) t (a ++ [l]) (ds ++ [x]) fd (w.setCell ⟨g1, a.length, none⟩ x) := by
  have hg1 := (H.dvh g1 rfl).1
  have e3 : ∀ c, c ≠ g1 → (w.setCell ⟨g1, a.length, none⟩ x).heap[c]? = w.heap[c]? := fun c hc => set_other (p := ⟨g1, a.length, none⟩) hc
  have hll := H.len
  simp at hll
  obtain ⟨k1, k2, k3⟩ := H.keep hbz (w' := w.setCell ⟨g1, a.length, none⟩ x) rfl rfl (by simp) (fun c hc => e3 c (by omega))
  refine ⟨H.hd.same (e3 h (by omega)), k1, H.gh, H.sh, ?_, fun j y m hy hm => ?_, k3⟩
  · have h1 := H.dr
    rw [show (a ++ [([] : List UInt8)]).length = a.length + 1 by simp] at h1
    have h2 := own_set1 (u := x) h1 (Nat.lt_succ_self a.length)
    rw [show (a ++ [l]).length = a.length + 1 by simp]
    rw [show (ds ++ [Value.slice none 0 0]).set a.length x = ds ++ [x] by rw [← hll]; simp] at h2
    exact h2
  · by_cases hj : j < a.length
    · rw [List.getElem?_append_left (by omega)] at hy
      rw [List.getElem?_append_left hj] at hm
      exact k2 j y m (by rw [List.getElem?_append_left (by omega)]; exact hy) (by rw [List.getElem?_append_left hj]; exact hm)
    · rw [List.getElem?_append_right (by omega), hll] at hy
      rw [List.getElem?_append_right (by omega)] at hm
      have hj0 : j - a.length = 0 := by
        have := (List.getElem?_eq_some_iff.1 hm).1
        simp at this; omega
      rw [hj0] at hy hm
      simp at hy hm
      subst hy hm
      exact hx.gw k3
theorem Nv.drew (H : Nv bz W h g sl dv t a ds fd w) : Nv bz W h g sl dv t a ds fd w.drew :=
  ⟨H.hd, H.tr.same (fun _ _ => rfl), H.gh, H.sh, own_same H.dr (fun _ _ => rfl), fun j x l hx hl => (H.by_ j x l hx hl).gw (Gw.refl w).drew, H.gw.drew⟩
theorem Nv.setfd (H : Nv bz W h g sl dv t a ds fd w) (hbz : bz ≤ W.heap.size) (i : Nat) (k : Int) : Nv bz W h g sl dv t a ds (fd.set i k) (w.setCell ⟨h, 3 + i, none⟩ (.int .i64 k)) := by
  have e3 : ∀ c, c ≠ h → (w.setCell ⟨h, 3 + i, none⟩ (.int .i64 k)).heap[c]? = w.heap[c]? := fun c hc => set_other (p := ⟨h, 3 + i, none⟩) hc
  obtain ⟨k1, k2, k3⟩ := H.keep hbz (w' := w.setCell ⟨h, 3 + i, none⟩ (.int .i64 k)) rfl rfl (by simp) (fun c hc => e3 c (by omega))
  have h2 := H.hd.put (3 + i) (.int .i64 k)
  rw [hC_setfd] at h2
  exact ⟨h2, k1, H.gh, H.sh, own_same H.dr (fun b hb => e3 b (fun e => by have := (H.dvh b hb).1; omega)), k2, k3⟩
theorem Nv.done (H : Nv bz W h g sl dv t a ds fd w) (hbz : bz ≤ W.heap.size) (ok : FOm ⟨t, a, [], fd⟩) : ∃ tau G, FR bz tau G w h ⟨t, a, [], fd⟩ ∧ ∀ k, k < W.heap.size → tau k = 0 := by
  have hg := H.gh
  have hB := H.tr.hB
  have hl := H.hd.lt
  have wkT : RT bz w g sl t := by
    refine ⟨H.tr.hd, ⟨H.tr.row.1, ?_⟩, H.tr.ne, by omega, H.tr.len⟩
    rcases H.tr.row.2 with h0 | ⟨b, cap, cur, h0, h1, h2⟩
    · exact .inl h0
    · exact .inr ⟨b, cap, cur, h0, by omega, h2⟩
  have wkD : w.ownsRow bz 52 1 dv a.length ds := by
    refine ⟨H.dr.1, ?_⟩
    rcases H.dr.2 with h0 | ⟨b, cap, cur, h0, h1, h2⟩
    · exact .inl h0
    · exact .inr ⟨b, cap, cur, h0, by omega, h2⟩
  refine ⟨fun b => if b = h then 1 else if b = g ∨ sl.ownBlock = some b then 2 else if dv.ownBlock = some b then 3 else 0, ⟨g, sl, dv, .slice none 0 0, ds, []⟩,
    ⟨H.hd, wkT, wkD, World.ownsRow_nil _ _ _ 1, fun i b x hb => (by simp at hb), fun j x l hx hm => ?_, if_pos rfl, ?_, fun b hb => ?_, fun b hb => ?_, fun b hb => (by cases hb), fun i b hb => (by simp at hb), fun b hb => ?_, by omega, ok⟩, fun k hk => ?_⟩
  · obtain ⟨A, cap, h1, h2, h3, h4⟩ := H.by_ j x l hx hm
    refine ⟨A, cap, h1, h2, h3, fun j c hj => ?_⟩
    obtain ⟨b, off, e, ht, hc⟩ := h4 j c hj
    exact ⟨b, off, e, .inl (ht.resolve_right (fun e => by cases e)), hc⟩
  · show (if g = h then 1 else _) = 2
    rw [if_neg (by omega), if_pos (.inl rfl)]
  · have := (H.sh b hb).2
    show (if b = h then 1 else _) = 2
    rw [if_neg (by omega), if_pos (.inr hb)]
  · have := (H.dvh b hb).1
    show (if b = h then 1 else _) = 3
    rw [if_neg (by omega), if_neg (fun e => by rcases e with e | e
                                               · omega
                                               · have := (H.sh b e).2; omega), if_pos hb]
  · by_cases h1 : b = h
    · rw [h1]; omega
    · have hb : (if b = h then 1 else if b = g ∨ sl.ownBlock = some b then 2 else if dv.ownBlock = some b then 3 else 0) ≠ 0 := hb
      rw [if_neg h1] at hb
      by_cases h2 : b = g ∨ sl.ownBlock = some b
      · rcases h2 with h2 | h2
        · omega
        · have := H.sh b h2; omega
      · rw [if_neg h2] at hb
        by_cases h3 : dv.ownBlock = some b
        · have := H.dvh b h3; omega
        · rw [if_neg h3] at hb; exact absurd rfl hb
  · show (if k = h then 1 else _) = 0
    rw [if_neg (by omega), if_neg (fun e => by rcases e with e | e
                                               · omega
                                               · have := (H.sh k e).1; omega), if_neg (fun e => by have := (H.dvh k e).1; omega)]
end
/-- What is so behind NewFiles. -/
def NfP (bz : Nat) (W : World) (es : List (List UInt8 × Bool)) (data : List (List UInt8)) (e : Ending) (W' : World) : Prop := match newF es data with
  | .inl k => e = .returned (.tuple #[.pointer none, .int .i64 k]) ∧ Gw W W'
  | .inr s => ∃ h tau G, e = .returned (.tuple #[.pointer (some ⟨h, 0, none⟩), .int .i64 0]) ∧ Gw W W' ∧ FR bz tau G W' h s ∧ ∀ k, k < W.heap.size → tau k = 0
theorem nf_bad {bz : Nat} {W W' : World} {es : List (List UInt8 × Bool)} {data : List (List UInt8)} {k : Int} (h : newF es data = .inl k) (G : Gw W W') : NfP bz W es data (.returned (.tuple #[.pointer none, .int .i64 k])) W' := by unfold NfP; rw [h]; exact ⟨rfl, G⟩
theorem nf_ok {bz : Nat} {W w : World} {es : List (List UInt8 × Bool)} {data : List (List UInt8)} {h g : Nat} {sl dv : Value} {t : St} {a : List (List UInt8)} {ds : List Value} (H : Nv bz W h g sl dv t a ds [-1, -1, -1, -1] w) (hbz : bz ≤ W.heap.size)
    (e : newF es data = .inr ⟨t, a, [], [-1, -1, -1, -1]⟩) (h8 : ∀ l ∈ a, l.length ≤ 8) : NfP bz W es data (.returned (.tuple #[.pointer (some ⟨h, 0, none⟩), .int .i64 0])) w := by
  unfold NfP
  rw [e]
  obtain ⟨tau, G, k1, k2⟩ := H.done hbz ⟨rfl, fun i k hk => by
    have : k ∈ [(-1 : Int), -1, -1, -1] := List.mem_of_getElem? hk
    simp at this
    subst this
    exact ⟨by omega, by show (-1 : Int) < (([] : List (Nat × Nat)).length : Int); simp⟩, fun i x hx => by simp at hx, h8⟩
  exact ⟨h, tau, G, rfl, H.gw, k1, k2⟩
end Go.Proofs.Ytckoapfmfpmdgaa

namespace Go.Proofs.Ytckoapfmfpmdgaa
open Go.ChangeShapes Go.WideShapes Go.ChangeAt Go.RowKit Go.Joins
set_option linter.unusedVariables false
set_option linter.unusedSimpArgs false

deriving instance DecidableEq for St
/-- Nothing but the blocks of F has changed. -/
structure ChF (F : Nat → Prop) (W W' : World) : Prop where
  os : W'.os = W.os
  output : W'.output = W.output
  size : W.heap.size ≤ W'.heap.size
  block : ∀ k, k < W.heap.size → ¬ F k → W'.heap[k]? = W.heap[k]?
abbrev TP := (Nat → Prop) → World → Value → St → Prop
/-- What was done to a tree has been done to it alone. -/
structure Kp (T : TP) (F : Nat → Prop) (v : Value) (s' : St) (W W' : World) : Prop where
  ch : ChF F W W'
  ex : ∃ F', T F' W' v s' ∧ ∀ k, F' k → F k ∨ W.heap.size ≤ k
/-- What New answers. -/
def NewP (T : TP) (W : World) (es : List (List UInt8 × Bool)) (e : Ending) (W' : World) : Prop := match newT es with
  | none => e = .returned (.tuple #[.pointer none, .int .i64 11]) ∧ Gw W W'
  | some s => ∃ a F, e = .returned (.tuple #[.pointer (some a), .int .i64 0]) ∧ T F W' (.pointer (some a)) s ∧ Gw W W' ∧ ∀ k, F k → W.heap.size ≤ k
structure TreeC (T : TP) : Prop where
  lt : ∀ {F W v s k}, T F W v s → F k → k < W.heap.size
  same : ∀ {F W W' v s}, T F W v s → (∀ k, F k → W'.heap[k]? = W.heap[k]?) → T F W' v s
  new : ∀ {W x es}, EntAt W x es → (∀ e ∈ es, e.1.length ≤ 140737488351232) → es.length ≤ 4611686018427387904 → Calls Try.prog 17 #[x] W fun e W' => NewP T W es e W'
  find : ∀ {F W v s} (p : ByteArray), T F W v s → Ok s.l → s.l.length ≤ 8 → p.size ≤ 140737488351232 → Calls Try.prog 27 #[v, .string p] W fun e W' => e = .returned (fV (findT s.l p.data.toList)) ∧ Kp T F v s W W'
  make : ∀ {F W v s} (p : ByteArray) (d : Bool), T F W v s → Ok s.l → s.l.length ≤ 8 → p.size ≤ 140737488351232 → 0 ≤ s.nx → s.nx ≤ 4611686018427387904 → Calls Try.prog 23 #[v, .string p, .bool d] W fun e W' => e = .returned (mV (makeT s p.data.toList d).1) ∧ Kp T F v (makeT s p.data.toList d).2 W W'
  drop : ∀ {F W v s} (p : ByteArray) (d : Bool), T F W v s → Ok s.l → s.l.length ≤ 8 → p.size ≤ 140737488351232 → Calls Try.prog 24 #[v, .string p, .bool d] W fun e W' => e = .returned (.int .u16 (dropT s p.data.toList d).1) ∧ Kp T F v (dropT s p.data.toList d).2 W W'
  move : ∀ {F W v s} (a b : ByteArray), T F W v s → Ok s.l → s.l.length ≤ 8 → a.size ≤ 140737488351232 → b.size ≤ 140737488351232 → Calls Try.prog 25 #[v, .string a, .string b] W fun e W' => e = .returned (mV (moveT s a.data.toList b.data.toList).1) ∧ Kp T F v (moveT s a.data.toList b.data.toList).2 W W'
  many : ∀ {F W v s} (p : ByteArray), T F W v s → Ok s.l → s.l.length ≤ 8 → p.size ≤ 140737488351232 → Calls Try.prog 26 #[v, .string p] W fun e W' => e = .returned (.int .u16 (manyT s.l p.data.toList)) ∧ Kp T F v s W W'
  len : ∀ {F W v s}, T F W v s → Ok s.l → s.l.length ≤ 8 → Calls Try.prog 20 #[v] W fun e W' => e = .returned (.int .i64 s.l.length) ∧ Gw W W'
  copy : ∀ {F W v s}, T F W v s → Ok s.l → s.l.length ≤ 8 → Calls Try.prog 22 #[v] W fun e W' => ∃ a F', e = .returned (.pointer (some a)) ∧ Gw W W' ∧ T F' W' (.pointer (some a)) s ∧ ∀ k, F' k → W.heap.size ≤ k
theorem Kp.of_gw {T : TP} (C : TreeC T) {F : Nat → Prop} {v : Value} {s : St} {W W' : World} (h : T F W v s) (G : Gw W W') : Kp T F v s W W' := ⟨⟨G.os, G.output, G.size, fun k hk _ => G.block k hk⟩, F, C.same h (fun k hk => G.block k (C.lt h hk)), fun _ hk => .inl hk⟩
/-- A tree that the call has made. -/
structure Mn (T : TP) (W w : World) (v : Value) (s : St) : Prop where
  gw : Gw W w
  ex : ∃ F, T F w v s ∧ ∀ k, F k → W.heap.size ≤ k
theorem Mn.next {T : TP} {W w w' : World} {v : Value} {s' : St} {F : Nat → Prop} (G : Gw W w) (hF : ∀ k, F k → W.heap.size ≤ k) (k : Kp T F v s' w w') : Mn T W w' v s' := by
  obtain ⟨F', h1, h2⟩ := k.ex
  refine ⟨⟨k.ch.os.trans G.os, rfl, k.ch.output.trans G.output, Nat.le_trans G.size k.ch.size, fun j hj => (k.ch.block j (Nat.lt_of_lt_of_le hj G.size) (fun hf => by have := hF j hf; omega)).trans (G.block j hj)⟩, F', h1, fun j hj => ?_⟩
  rcases h2 j hj with h | h
  · exact hF j h
  · exact Nat.le_trans G.size h
section
variable {T : TP} {W w : World} {v : Value} {s : St}
theorem Mn.drewM (C : TreeC T) (M : Mn T W w v s) (n : Nat) : Mn T W (w.drewN n) v s := by
  obtain ⟨F, h, hF⟩ := M.ex
  exact ⟨M.gw.drewM n, F, C.same h (fun _ _ => rfl), hF⟩
end
end Go.Proofs.Ytckoapfmfpmdgaa
