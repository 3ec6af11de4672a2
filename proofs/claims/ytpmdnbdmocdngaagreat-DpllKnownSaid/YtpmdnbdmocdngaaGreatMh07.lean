/-
  Parts of the proof, joined: UnitW, UnitS, UnitG, DpllL.
-/
import Derived.Test.YtpmdnbdmocdngaaGreatMh04
import Derived.Test.YtpmdnbdmocdngaaGreatMh06
import Derived.Laws.BitsAllLaws

namespace Go.Proofs.YtpmdnbdmocdngaaGreat
open Go.ChangeShapes Go.WideShapes Go.ChangeAt Go.RowKit
set_option linter.unusedVariables false

theorem pl_pos (i : Nat) : pl ((i : Int) + 1) = 2 * i := by unfold pl; rw [if_neg (by omega)]; omega
theorem pl_neg (i : Nat) : pl (-((i : Int) + 1)) = 2 * i + 1 := by unfold pl; rw [if_pos (by omega)]; omega
theorem place_any {n : Nat} (l : Int) (W : World) (h : LOk n l) (hn : n ≤ 65536) : Calls Tryz.prog 87 #[.int .i64 l] W fun e W' => e = .returned (.int .i64 (pl l : Nat)) ∧ W = W' := by
  obtain ⟨i, hi, rfl | rfl⟩ := h.form
  · rw [pl_pos]
    have h1 : i < 65536 := by omega
    clear h hi hn
    go_enter Tryz.func87, Tryz.ntmps87
    go_wp2
    go_ret
    refine ⟨ret_int ?_, rfl⟩
    first | (push_cast; omega) | (simp only [wrap64]; push_cast; omega)
  · rw [pl_neg]
    have h1 : i < 65536 := by omega
    have h2 : IntKind.i64.wrap (- -((i : Int) + 1)) = (i : Int) + 1 := by rw [Int.neg_neg]; exact wrap_in (by omega) (by omega)
    obtain ⟨l, hl⟩ : ∃ l : Int, l = -((i : Int) + 1) := ⟨_, rfl⟩
    rw [← hl] at h2 ⊢
    have h3 : l < 0 := by omega
    clear h hi hn
    go_enter Tryz.func87, Tryz.ntmps87
    go_wp2
    go_ret
    refine ⟨ret_int ?_, rfl⟩
    first | (push_cast; omega) | (simp only [wrap64]; push_cast; omega)
section
variable {B : Nat} {τ : Nat → Nat} {W : World} {p n : Nat} {cs : List (List Int)} {lf : List Int} {F : Nat → List Nat} {t hs : List Int} {cv lv wv tv hv : Value}
/-- A truth, as it lies. -/
theorem Ch.truth (h : Ch B τ W p n cs lf F t hs cv lv wv tv hv) {i : Nat} {x : Int} (hx : t[i]? = some x) : ∃ g cap, tv = .slice (some ⟨g, 0, none⟩) t.length cap ∧ W.cell? ⟨g, i, none⟩ = some (.int .i64 x) ∧ W.frozen? ⟨g, i, none⟩ = false ∧ t.length ≤ cap ∧ cap ≤ 9223372036854775807 := by
  obtain ⟨g, cap, h1, _, h2, h3, h4, h5⟩ := h.trow.cells i (.int .i64 x) (by rw [List.getElem?_map, hx]; rfl)
  rw [List.length_map] at h1 h4
  exact ⟨g, cap, h1, h2, h3, h4, h5⟩
theorem worth_any {l : Int} (h : Ch B τ W p n cs lf F t hs cv lv wv tv hv) (ht : TV n t) (ok : LOk n l) (hn : n ≤ 65536) :
    Calls Tryz.prog 123 #[ptr p, .int .i64 l] W fun e W' => e = .returned (.int .i64 (wo t l)) ∧ W = W' := by
  obtain ⟨i, hi, hl⟩ := ok.form
  obtain ⟨x, hx⟩ : ∃ x, t[i]? = some x := ⟨_, List.getElem?_eq_getElem (by rw [ht.1]; exact hi)⟩
  obtain ⟨g, cap, hv, hc, _, hcap, hcm⟩ := h.truth hx
  have c3 : W.cell? ⟨p, 3, none⟩ = some tv := h.blk.cell 3
  have hx3 := ht.2 i x hx
  have htl := ht.1
  subst hv
  have h1 : i < 65536 := by omega
  have h2 : i < t.length := by omega
  rcases hl with rfl | rfl
  · have HE := Lib.hid (show wo t ((i : Int) + 1) = x by rw [wo_pos, hx]; rfl)
    clear h hi ht ok hx
    go_enter Tryz.func123, Tryz.ntmps123
    go_wp2
    go_ret
    exact ⟨by rw [HE.out]; (first | done | rfl), rfl⟩
  · have HE := Lib.hid (show wo t (-((i : Int) + 1)) = -x by rw [wo_neg, hx]; rfl)
    have h4 : IntKind.i64.wrap (- -((i : Int) + 1)) = (i : Int) + 1 := by rw [Int.neg_neg]; exact wrap_in (by omega) (by omega)
    have h5 : IntKind.i64.wrap (-x) = -x := wrap_in (by omega) (by omega)
    obtain ⟨l, hl⟩ : ∃ l : Int, l = -((i : Int) + 1) := ⟨_, rfl⟩
    rw [← hl] at h4 HE ⊢
    have h6 : l < 0 := by omega
    clear h hi ht ok hx hl
    go_enter Tryz.func123, Tryz.ntmps123
    go_wp2
    go_ret
    exact ⟨by rw [HE.out]; (first | done | rfl), rfl⟩
theorem Blk.grown {τ : Nat → Nat} {r r' : Nat} {w w' : World} {g : Nat} {t e : TypeId} {cs : Array Value} {v : Value} {xs : List Value} (h : Blk τ r w g t cs) (k : Row τ r' w e v xs) (hne : r ≠ r') (hg : w.grownBy w' v.ownBlock) : Blk τ r w' g t cs :=
  ⟨(hg.block g h.lt fun e => hne (by rw [← h.2, ← k.2 g e.symm])).trans h.1, h.2⟩
def HoldPost (B : Nat) (τ : Nat → Nat) (W : World) (p n : Nat) (cs : List (List Int)) (lf : List Int) (F : Nat → List Nat) (t hs : List Int) (cv lv wv tv : Value) (l : Int) (W' : World) : Prop :=
  ∃ τ' hv', Ch B τ' W' p n cs lf F (setL t l) (hs ++ [l]) cv lv wv tv hv' ∧ Step (fun r => r = 1 ∨ r = 5 ∨ r = 6) τ τ' W W'
theorem hold_any {l : Int} (h : Ch B τ W p n cs lf F t hs cv lv wv tv hv) (ht : TV n t) (ok : LOk n l) (hn : n ≤ 65536) (hh : hs.length ≤ 65536) :
    Calls Tryz.prog 124 #[ptr p, .int .i64 l] W fun e W' => e = .returned (.tuple #[]) ∧ HoldPost B τ W p n cs lf F t hs cv lv wv tv l W' := by
  obtain ⟨i0, hi0, hz0, hz1, hz2⟩ := info_parts infoInt
  have HI := Lib.hid (show _ ∧ _ ∧ _ ∧ _ from ⟨hi0, hz0, hz1, hz2⟩)
  clear hi0 hz0 hz1 hz2
  obtain ⟨i, hi, hl⟩ := ok.form
  obtain ⟨x, hx⟩ : ∃ x, t[i]? = some x := ⟨_, List.getElem?_eq_getElem (by rw [ht.1]; exact hi)⟩
  obtain ⟨g, cap, hv', hc, hfr, hcap, hcm⟩ := h.truth hx
  have c3 : W.cell? ⟨p, 3, none⟩ = some tv := h.blk.cell 3
  have htl := ht.1
  have hit : i < t.length := by omega
  have hset : ∀ y : Int, at_ l = i → sg l = y → t.set i y = setL t l := fun y e1 e2 => by unfold setL; rw [e1, e2]
  have key : ∀ (y : Int) (W1 : World), W1 = (W.setCell ⟨g, i, none⟩ (.int .i64 y)) → setL t l = t.set i y →
      Hid (Ch B τ W1 p n cs lf F (setL t l) hs cv lv wv tv hv ∧ Step (fun r => r = 5) τ τ W W1) := fun y W1 e1 e2 => by
    rw [e1, e2]; exact h.setT hv' hit y
  have fin : ∀ (W1 wp : World) (c g1 : Nat), Ch B τ W1 p n cs lf F (setL t l) hs cv lv wv tv hv → Step (fun r => r = 5) τ τ W W1 → (W1.alloc (.cells #[.int .i64 l] 3)).grownBy wp hv.ownBlock → wp.ownsRow 0 3 1 (.slice (some ⟨g1, 0, none⟩) (hs.length + 1) c) (hs.length + 1) (ints hs ++ [.int .i64 l]) → (hv.ownBlock = some g1 ∨ g1 = W.heap.size + 1) → g1 < wp.heap.size → W1.heap.size = W.heap.size →
      wp.cell? ⟨p, 4, none⟩ = some hv ∧ wp.frozen? ⟨p, 4, none⟩ = false ∧ HoldPost B τ W p n cs lf F t hs cv lv wv tv l (wp.setCell ⟨p, 4, none⟩ (.slice (some ⟨g1, 0, none⟩) (hs.length + 1) c)) := fun W1 wp c g1 h1 s1 hg ho hat hlt hsz => by
    have b1 : Below W1.heap.size W1 (W1.alloc (.cells #[.int .i64 l] 3)) := (Below.refl _ _).alloc (Nat.le_refl _) _
    obtain ⟨τ', k1, k2⟩ := Ch.addH (h1.below b1) hg ho (hat.imp id (fun e => by simp; omega)) hlt
    have hb := (h1.below b1).blk.grown (h1.below b1).hrow (by decide) hg
    exact ⟨hb.cell 4, hb.free 4, τ', _, k1, ((s1.mono (fun r h => .inr (.inl h))).trans (Step.of_below _ _ b1)).trans (k2.mono (fun r h => h.imp id .inr))⟩
  have FIN := Lib.hid fin
  have KEY := Lib.hid key
  have HSET := Lib.hid hset
  obtain ⟨hA, hcap2, hform⟩ : ∃ A c, hv = .slice A hs.length c := by have := h.hrow.form; rwa [List.length_map] at this
  subst hform
  clear h ht hx key fin hset
  subst hv'
  have h1 : i < 65536 := by omega
  rcases hl with rfl | rfl
  · have KK := KEY.out 1 _ rfl (HSET.out 1 (at_pos i) (by unfold sg; rw [if_neg (by omega)])).symm
    have C1 := Lib.hid KK.out.1
    have S1 := Lib.hid KK.out.2
    clear KK KEY HSET
    have c4 : (W.setCell ⟨g, i, none⟩ (.int .i64 1)).cell? ⟨p, 4, none⟩ = some (.slice hA hs.length hcap2) := C1.out.blk.cell 4
    have HO : Hid ((W.setCell ⟨g, i, none⟩ (.int .i64 1)).ownsRow 0 3 1 (.slice hA hs.length hcap2) hs.length (ints hs)) := by have := C1.out.hrow.1; rw [List.length_map] at this; exact this
    have HZ : Hid ((W.setCell ⟨g, i, none⟩ (.int .i64 1)).heap.size = W.heap.size) := by simp [Hid, World.setCell]
    go_enter Tryz.func124, Tryz.ntmps124
    go_wp2_with (at_builtin; refine wpList_append_lies _ rfl _ _ _ rfl 0 3 i0 _ 1 8 Tryz.underlying36 HI.out.1 HI.out.2.1 HI.out.2.2.1 HI.out.2.2.2 rfl (by omega) (.slice hA hs.length hcap2) hs.length (ints hs) rfl (HO.out.alloc _) ⟨W.heap.size, 0, none⟩ 1 1 [.int .i64 ((i : Int) + 1)] rfl rfl (by rw [← HZ.out]; exact World.news_of_block (cs := #[.int .i64 ((i : Int) + 1)]) (t := 3) (fr := (0, 0)) (new_heap (W.setCell ⟨g, i, none⟩ (.int .i64 1)) _)) (by simp [Value.oneCell']) (by omega) (by unfold maxLen; omega) (by omega) (Nat.zero_le _) (W.heap.size + 1) (by simp [World.setCell]) ?_; intro g1 c1 wp hown1 hg1 hat1 hlt1; have HF := FIN.out _ wp c1 g1 C1.out S1.out hg1 hown1 hat1 hlt1 HZ.out; have c5 := HF.1; have f5 := HF.2.1; have HFF := Lib.hid HF.2.2; clear hown1 hg1 hat1 hlt1 HF)
    go_end0
    exact ⟨rfl, HFF.out⟩
  · have h4 : IntKind.i64.wrap (- -((i : Int) + 1)) = (i : Int) + 1 := by rw [Int.neg_neg]; exact wrap_in (by omega) (by omega)
    obtain ⟨l, hl⟩ : ∃ l : Int, l = -((i : Int) + 1) := ⟨_, rfl⟩
    have ha := at_neg i
    have hsg : sg (-((i : Int) + 1)) = -1 := by unfold sg; rw [if_pos (by omega)]
    rw [← hl] at h4 KEY HSET FIN ha hsg ⊢
    have h6 : l < 0 := by omega
    have KK := KEY.out (-1) _ rfl (HSET.out (-1) ha hsg).symm
    have C1 := Lib.hid KK.out.1
    have S1 := Lib.hid KK.out.2
    clear KK KEY HSET ha hsg ok hl
    have c4 : (W.setCell ⟨g, i, none⟩ (.int .i64 (-1))).cell? ⟨p, 4, none⟩ = some (.slice hA hs.length hcap2) := C1.out.blk.cell 4
    have HO : Hid ((W.setCell ⟨g, i, none⟩ (.int .i64 (-1))).ownsRow 0 3 1 (.slice hA hs.length hcap2) hs.length (ints hs)) := by have := C1.out.hrow.1; rw [List.length_map] at this; exact this
    have HZ : Hid ((W.setCell ⟨g, i, none⟩ (.int .i64 (-1))).heap.size = W.heap.size) := by simp [Hid, World.setCell]
    go_enter Tryz.func124, Tryz.ntmps124
    go_wp2_with (at_builtin; refine wpList_append_lies _ rfl _ _ _ rfl 0 3 i0 _ 1 8 Tryz.underlying36 HI.out.1 HI.out.2.1 HI.out.2.2.1 HI.out.2.2.2 rfl (by omega) (.slice hA hs.length hcap2) hs.length (ints hs) rfl (HO.out.alloc _) ⟨W.heap.size, 0, none⟩ 1 1 [.int .i64 l] rfl rfl (by rw [← HZ.out]; exact World.news_of_block (cs := #[.int .i64 l]) (t := 3) (fr := (0, 0)) (new_heap (W.setCell ⟨g, i, none⟩ (.int .i64 (-1))) _)) (by simp [Value.oneCell']) (by omega) (by unfold maxLen; omega) (by omega) (Nat.zero_le _) (W.heap.size + 1) (by simp [World.setCell]) ?_; intro g1 c1 wp hown1 hg1 hat1 hlt1; have HF := FIN.out _ wp c1 g1 C1.out S1.out hg1 hown1 hat1 hlt1 HZ.out; have c5 := HF.1; have f5 := HF.2.1; have HFF := Lib.hid HF.2.2; clear hown1 hg1 hat1 hlt1 HF)
    go_end0
    exact ⟨rfl, HFF.out⟩
end
end Go.Proofs.YtpmdnbdmocdngaaGreat

namespace Go.Proofs.YtpmdnbdmocdngaaGreat
open Go.ChangeShapes Go.WideShapes Go.ChangeAt Go.RowKit
set_option linter.unusedVariables false

/-- Parts that going through writes. -/
abbrev RF : Nat → Prop := fun r => r = 1 ∨ r = 3 ∨ r = 5 ∨ r = 6
def SettlePost (B : Nat) (τ : Nat → Nat) (W : World) (p n : Nat) (cs : List (List Int)) (lf : List Int) (F : Nat → List Nat) (hs : List Int) (cv lv wv tv : Value) (m : List Int) (D : Nat → List Int) (P : Nat → Prop) (e : Ending) (W' : World) : Prop :=
  (e = .returned (.bool true) ∧ ∃ τ' t' ex hv', Ch B τ' W' p n cs lf F t' (hs ++ ex) cv lv wv tv hv' ∧ Fw n cs m t' (hs ++ ex) D lf P ∧ Step RF τ τ' W W') ∨
  (e = .returned (.bool false) ∧ Ans n cs m none ∧ W = W')
section
variable {B : Nat} {τ : Nat → Nat} {W : World} {p n : Nat} {cs : List (List Int)} {lf : List Int} {F : Nat → List Nat} {t hs : List Int} {cv lv wv tv hv : Value} {m : List Int} {D : Nat → List Int} {P : Nat → Prop} {i : Nat} {c : List Int}
theorem Ch.leftAt (h : Ch B τ W p n cs lf F t hs cv lv wv tv hv) {i : Nat} {x : Int} (hx : lf[i]? = some x) : ∃ g cap, lv = .slice (some ⟨g, 0, none⟩) lf.length cap ∧ W.cell? ⟨g, i, none⟩ = some (.int .i64 x) ∧ W.frozen? ⟨g, i, none⟩ = false ∧ lf.length ≤ cap ∧ cap ≤ 9223372036854775807 := by
  obtain ⟨g, cap, h1, _, h2, h3, h4, h5⟩ := h.lrow.cells i (.int .i64 x) (by rw [List.getElem?_map, hx]; rfl)
  rw [List.length_map] at h1 h4
  exact ⟨g, cap, h1, h2, h3, h4, h5⟩
theorem Ch.clauseAt (h : Ch B τ W p n cs lf F t hs cv lv wv tv hv) (hc : cs[i]? = some c) : ∃ g cap A ccap, cv = .slice (some ⟨g, 0, none⟩) cs.length cap ∧ W.cell? ⟨g, i, none⟩ = some (.slice A c.length ccap) ∧ cs.length ≤ cap ∧ cap ≤ 9223372036854775807 ∧ SeqAt (Value.int .i64) W A c := by
  obtain ⟨cvs, h1, h2, h3⟩ := h.crow
  obtain ⟨v, hv, A, ccap, rfl, hl⟩ := h3 i c hc
  obtain ⟨g, cap, e1, _, e2, _, e4, e5⟩ := h1.cells i _ hv
  rw [h2] at e1 e4
  exact ⟨g, cap, A, ccap, e1, e2, e4, e5, ⟨fun j z hz => by obtain ⟨a, ha, hb, _⟩ := hl j z hz; exact ⟨a, ha, hb⟩⟩⟩
set_option maxHeartbeats 1600000 in
theorem settle_any (h : Ch B τ W p n cs lf F t hs cv lv wv tv hv) (fw : Fw n cs m t hs D lf P) (ok : FOk n cs) (hn : n ≤ 65536) (hc : cs[i]? = some c) (hcs : cs.length ≤ 100000) (hcl : c.length ≤ 100000) :
    Calls Tryz.prog 86 #[ptr p, .int .i64 (i : Nat)] W (SettlePost B τ W p n cs lf F hs cv lv wv tv m D (fun j => P j ∨ j = i)) := by
  have hcap0 : cnt (D i) c ≤ 100000 := Nat.le_trans (List.length_filter_le _ _) hcl
  have hlf := fw.left i c hc
  obtain ⟨lg, lcap, hlv, lc, _, lcap1, lcap2⟩ := h.leftAt hlf
  have c1 : W.cell? ⟨p, 1, none⟩ = some lv := h.blk.cell 1
  have c0 : W.cell? ⟨p, 0, none⟩ = some cv := h.blk.cell 0
  obtain ⟨cg, ccap, A, dcap, hcv, cc, ccap1, ccap2, hseq⟩ := h.clauseAt hc
  have hil : i < lf.length := (List.getElem?_eq_some_iff.1 hlf).1
  have hic : i < cs.length := (List.getElem?_eq_some_iff.1 hc).1
  have H := Lib.hid h
  have FW := Lib.hid fw
  have HC := Lib.hid hc
  have OK := Lib.hid ok
  have HS := Lib.hid hseq
  have hll := fw.len
  have stay : (2 ≤ cnt (D i) c ∨ ∃ x ∈ c, wo t x = 1) → Hid (SettlePost B τ W p n cs lf F hs cv lv wv tv m D (fun j => P j ∨ j = i) (.returned (.bool true)) W) := fun k =>
    .inl ⟨rfl, τ, t, [], hv, by rw [List.append_nil]; exact H.out, by rw [List.append_nil]; exact fw.also hc k, Step.refl _ _ _⟩
  have STAY := Lib.hid stay
  clear h fw hc ok hseq hlf stay
  subst hlv
  subst hcv
  by_cases h2 : 2 ≤ cnt (D i) c
  · have HE := STAY.out (.inl h2)
    clear STAY FW HC OK HS H
    generalize cnt (D i) c = k at *
    have h3 : (1 : Int) < (k : Int) := by omega
    go_enter Tryz.func86, Tryz.ntmps86
    go_wp2_with fail
    go_ret
    exact HE.out
  · have h3 : ¬ ((1 : Int) < (cnt (D i) c : Int)) := by omega
    have h4 : cnt (D i) c < 2 := by omega
    have OTH := Lib.hid (fun l hl h0 => FW.out.others (i := i) (c := c) (l := l) OK.out HC.out h4 hl h0)
    have HLD := Lib.hid (fun l hl h0 => FW.out.hold (i := i) (c := c) (l := l) OK.out HC.out h4 hl h0)
    have OKC := Lib.hid (fun l hl => OK.out c (List.mem_of_getElem? HC.out) l hl)
    have BAD := Lib.hid (fun hot => FW.out.bad (i := i) (c := c) HC.out hot)
    have TV' := Lib.hid FW.out.st.tv
    have hhs := FW.out.st.le
    have HHS : Hid (hs.length ≤ n) := hhs
    clear hhs h2 h4 FW HC OK
    generalize cnt (D i) c = k0 at *
    go_enter Tryz.func86, Tryz.ntmps86
    go_wp2_with fail
    go_loop [23] (fun v => ∃ k : Nat, k ≤ c.length ∧ v = .int .i64 k ∧ Hid (∀ y ∈ c.take k, wo t y = -1)) (fun v => c.length - (intOf v).toNat)
    case atStart => exact ⟨0, by omega, rfl, by simp [Hid]⟩
    case round =>
      obtain ⟨k, hk, rfl, G⟩ := hrel
      by_cases hlt : k < c.length
      · obtain ⟨l, hz⟩ : ∃ l, c[k]? = some l := ⟨_, List.getElem?_eq_getElem hlt⟩
        obtain ⟨a, rfl, hcell⟩ := HS.out.get k l hz
        have hm := List.mem_of_getElem? hz
        have okl := OKC.out l hm
        have cw := worth_any H.out TV'.out okl hn
        rcases wo_cases TV'.out l with e | e | e
        · rw [e] at cw
          have HE := Lib.hid (show ∀ y ∈ c.take (k + 1), wo t y = -1 from fun y hy => by
            rw [List.take_succ_eq_append_getElem hlt, (List.getElem?_eq_some_iff.1 hz).2] at hy
            rcases List.mem_append.1 hy with hy | hy
            · exact G.out y hy
            · simp at hy; subst hy; exact e)
          clear hz hm okl e G
          go_wp2_with (go_at_call 123; ((with_reducible refine cw.mono ?_); rintro e w' ⟨rfl, rfl⟩))
          go_round
          case rel => exact ⟨k + 1, by omega, by go_num, HE.out⟩
          case measure => simp [intOf]; omega
        · rw [e] at cw
          have ch := hold_any (l := l) H.out TV'.out okl hn (by have := HHS.out; omega)
          have HE := Lib.hid (HLD.out l hm e)
          clear hz hm okl e G
          go_wp2_with (first | (go_at_call 123; ((with_reducible refine cw.mono ?_); rintro e w' ⟨rfl, rfl⟩)) | (go_at_call 124; ((with_reducible refine ch.mono ?_); rintro e w' ⟨rfl, hp⟩; have HP := Lib.hid hp; clear hp)))
          go_ret
          obtain ⟨τ', hv', k1, k2⟩ := HP.out
          exact .inl ⟨rfl, τ', setL t l, [l], hv', k1, HE.out, k2.mono (fun r h => h.imp id .inr)⟩
        · rw [e] at cw
          have HE := STAY.out (.inr ⟨l, hm, e⟩)
          clear hz hm okl e G STAY
          go_wp2_with (go_at_call 123; ((with_reducible refine cw.mono ?_); rintro e w' ⟨rfl, rfl⟩))
          go_ret
          exact HE.out
      · have HE := Lib.hid (BAD.out (fun y hy => by have := G.out; rw [List.take_of_length_le (by omega)] at this; exact this y hy))
        clear G
        go_wp2_with fail
        go_ret
        exact .inr ⟨rfl, HE.out, rfl⟩
end
end Go.Proofs.YtpmdnbdmocdngaaGreat

namespace Go.Proofs.YtpmdnbdmocdngaaGreat
open Go.ChangeShapes Go.WideShapes Go.ChangeAt Go.RowKit
set_option linter.unusedVariables false

/-- A call that leaves the world alone, behind draws. -/
theorem calm_one {P : Program} {f : FuncId} {args : Array Value} {w : World} {n : Nat} {v : Value} (h : ∀ W : World, Calls P f args W fun e W' => e = .returned v ∧ W = W') :
    Calls P f args (w.drewN n) fun e W => e = .returned v ∧ ∃ m, W = w.drewN m := (h _).mono fun _ _ k => ⟨k.1, n, k.2.symm⟩
theorem calm_two {P : Program} {f : FuncId} {args : Array Value} {w : World} {a n : Nat} {v : Value} (h : ∀ W : World, Calls P f args W fun e W' => e = .returned v ∧ W = W') :
    Calls P f args (w.drewN (a + n)) fun e W => e = .returned v ∧ ∃ m, W = w.drewN (a + m) := (h _).mono fun _ _ k => ⟨k.1, n, k.2.symm⟩
def DD (done : List Int) (h : Int) (gs : List Nat) (i : Nat) : List Int := if i ∈ gs then done ++ [h] else done
section
variable {n : Nat} {cs : List (List Int)} {m t hs done lf : List Int} {h : Int} {ws : List Nat} {j i : Nat} {c : List Int}
theorem Fw.next (F : Fw n cs m t hs (DD done h (ws.take j)) lf (fun _ => True)) (hn : ∀ c ∈ cs, c.Nodup) (hw : ws = wl cs (-h)) (hi : ws[j]? = some i) (hc : cs[i]? = some c) (hh : h ∈ hs) (hd : h ∉ done) :
    lf[i]? = some (cnt done c : Int) ∧ Fw n cs m t hs (DD done h (ws.take (j + 1))) (lf.set i ((cnt done c : Int) - 1)) (fun j' => True ∧ j' ≠ i) := by
  have hnd : ws.Nodup := by rw [hw]; exact wl_nodup _ _
  obtain ⟨hj, hi'⟩ := List.getElem?_eq_some_iff.1 hi
  have hno : i ∉ ws.take j := fun hm => by
    obtain ⟨k, hk, e⟩ := List.mem_iff_getElem.1 hm
    rw [List.length_take] at hk
    rw [List.getElem_take, ← hi'] at e
    have := (List.getElem_inj hnd).1 e
    omega
  have e0 : DD done h (ws.take j) i = done := by unfold DD; rw [if_neg hno]
  have hx : -h ∈ c := by
    have hm : i ∈ ws := List.mem_of_getElem? hi
    rw [hw] at hm
    obtain ⟨d, hd', hx⟩ := wl_mem.1 hm
    rw [hc] at hd'; injection hd' with hd'; rw [hd']; exact hx
  have hl := F.left i c hc
  rw [e0] at hl
  refine ⟨hl, ?_⟩
  have G := F.dec hc (hn c (List.mem_of_getElem? hc)) hx (by rw [e0]; exact hd) hh
  rw [e0] at G
  have e : ∀ j', DD done h (ws.take (j + 1)) j' = if j' = i then done ++ [h] else DD done h (ws.take j) j' := fun j' => by
    unfold DD
    rw [List.take_succ_eq_append_getElem hj, hi']
    by_cases e : j' = i
    · subst e; simp
    · simp [e]
  exact G.same (fun j' d _ => by rw [e]) (fun j' x hx' => by rw [e] at hx'; exact G.sub j' x hx')
theorem Fw.begin_ (F : Fw n cs m t hs (fun _ => done) lf (fun _ => True)) : Fw n cs m t hs (DD done h (ws.take 0)) lf (fun _ => True) :=
  F.same (fun j d _ => by unfold DD; simp) (fun j x hx => by unfold DD at hx; simp at hx; exact F.sub j x hx)
theorem Fw.end_ (F : Fw n cs m t hs (DD done h (ws.take j)) lf (fun _ => True)) (hj : ws.length ≤ j) (hw : ws = wl cs (-h)) (hh : h ∈ hs) (hsub : ∀ x ∈ done, x ∈ hs) : Fw n cs m t hs (fun _ => done ++ [h]) lf (fun _ => True) := by
  rw [List.take_of_length_le hj] at F
  refine F.same (fun i d hd => ?_) (fun i x hx => ?_)
  · unfold DD
    by_cases e : i ∈ ws
    · rw [if_pos e]
    · rw [if_neg e]
      refine cnt_no fun hm => e ?_
      rw [hw]; exact wl_mem.2 ⟨d, hd, hm⟩
  · rcases List.mem_append.1 hx with hx | hx
    · exact hsub x hx
    · simp at hx; subst hx; exact hh
end
def FollowPost (B : Nat) (τ : Nat → Nat) (W : World) (p n : Nat) (cs : List (List Int)) (F : Nat → List Nat) (cv lv wv tv : Value) (m : List Int) (e : Ending) (W' : World) : Prop :=
  (e = .returned (.bool true) ∧ ∃ τ' t' hs' lf' hv', Ch B τ' W' p n cs lf' F t' hs' cv lv wv tv hv' ∧ Ans n cs m (some t') ∧ Step RF τ τ' W W') ∨
  (e = .returned (.bool false) ∧ Ans n cs m none ∧ ∃ τ', Step RF τ τ' W W')
section
variable {B : Nat} {τ : Nat → Nat} {W : World} {p n : Nat} {cs : List (List Int)} {F : Nat → List Nat} {cv lv wv tv hv : Value} {m : List Int}
theorem Ch.heldAt {lf t hs : List Int} (h : Ch B τ W p n cs lf F t hs cv lv wv tv hv) {k : Nat} {x : Int} (hx : hs[k]? = some x) : ∃ g cap, hv = .slice (some ⟨g, 0, none⟩) hs.length cap ∧ W.cell? ⟨g, k, none⟩ = some (.int .i64 x) ∧ hs.length ≤ cap ∧ cap ≤ 9223372036854775807 := by
  obtain ⟨g, cap, h1, _, h2, h3, h4, h5⟩ := h.hrow.cells k (.int .i64 x) (by rw [List.getElem?_map, hx]; rfl)
  rw [List.length_map] at h1 h4
  exact ⟨g, cap, h1, h2, h4, h5⟩
theorem Ch.heldForm {lf t hs : List Int} (h : Ch B τ W p n cs lf F t hs cv lv wv tv hv) : ∃ A cap, hv = .slice A hs.length cap := by have := h.hrow.form; rwa [List.length_map] at this
theorem Ch.withAt {lf t hs : List Int} (h : Ch B τ W p n cs lf F t hs cv lv wv tv hv) {q : Nat} (hq : q < 2 * n) : ∃ wb A cap, wv = .slice (some ⟨wb, 0, none⟩) (2 * n) (2 * n) ∧ W.cell? ⟨wb, q, none⟩ = some (.slice A (F q).length cap) ∧ Row τ (8 + q) W 3 (.slice A (F q).length cap) (nats (F q)) := by
  obtain ⟨wb, wvs, h1, h2, h3, h4⟩ := h.wrow
  obtain ⟨v, hv, hr⟩ := h4 q hq
  obtain ⟨A, cap, hf⟩ := hr.form
  rw [List.length_map] at hf
  exact ⟨wb, A, cap, h1, by rw [h2.cell, hv, hf], by rw [← hf]; exact hr⟩
theorem Ch.clausesForm {lf t hs : List Int} (h : Ch B τ W p n cs lf F t hs cv lv wv tv hv) : ∃ A cap, cv = .slice A cs.length cap := by
  obtain ⟨cvs, h1, h2, _⟩ := h.crow
  obtain ⟨A, cap, hf⟩ := h1.form
  exact ⟨A, cap, by rw [hf, h2]⟩
end
end Go.Proofs.YtpmdnbdmocdngaaGreat

namespace Go.Proofs.YtpmdnbdmocdngaaGreat
open Go.ChangeShapes Go.WideShapes Go.ChangeAt Go.RowKit
set_option linter.unusedVariables false
set_option linter.unusedSimpArgs false

/-- The other way of a literal's number. -/
def oth (q : Nat) : Nat := if q % 2 = 0 then q + 1 else q - 1
theorem oth_lt {q n : Nat} (h : q < 2 * n) : oth q < 2 * n := by unfold oth; split <;> omega
theorem oth_oth (q : Nat) : oth (oth q) = q := by unfold oth; split <;> split <;> omega
theorem oth_ne (q : Nat) : oth q ≠ q := by unfold oth; split <;> omega
theorem oth_half (q : Nat) : oth q / 2 = q / 2 := by unfold oth; split <;> omega
theorem half_eq {q r : Nat} (h : q / 2 = r / 2) : r = q ∨ r = oth q := by unfold oth; split <;> omega
theorem xor_one (q : Nat) : q ^^^ 1 = oth q := by
  unfold oth
  split
  · rename_i h
    obtain ⟨k, rfl⟩ : ∃ k, q = 2 * k := ⟨q / 2, by omega⟩
    refine Nat.eq_of_testBit_eq fun i => ?_
    cases i with
    | zero => simp [Nat.testBit_xor, Nat.testBit_zero]
    | succ i => rw [Nat.testBit_succ, Nat.testBit_succ, Nat.xor_div_two, show 2 * k / 2 = k by omega, show (2 * k + 1) / 2 = k by omega]; simp
  · rename_i h
    obtain ⟨k, rfl⟩ : ∃ k, q = 2 * k + 1 := ⟨q / 2, by omega⟩
    refine Nat.eq_of_testBit_eq fun i => ?_
    cases i with
    | zero => simp [Nat.testBit_xor, Nat.testBit_zero]
    | succ i => rw [Nat.testBit_succ, Nat.testBit_succ, Nat.xor_div_two, show (2 * k + 1) / 2 = k by omega, show (2 * k + 1 - 1) / 2 = k by omega]; simp
theorem ofInt_i32 (X : Nat) (h : X < 2 ^ 32) : (BitVec.ofInt 32 (X : Int)).toNat = X := by
  rw [BitVec.toNat_ofInt]; omega
theorem bits_oth {q : Nat} (hq : q < 131072) : bits .xor .i32 (q : Int) 1 = (oth q : Int) := by
  have h2 : oth q < 131073 := by unfold oth; split <;> omega
  show IntKind.i32.wrap ((BitVec.ofInt 32 (q : Int) ^^^ BitVec.ofInt 32 ((1 : Nat) : Int)).toNat : Int) = _
  rw [BitVec.toNat_xor, ofInt_i32 q (by omega), ofInt_i32 1 (by decide), xor_one, IntKind.wrap_i32]
  omega
theorem lnum_any (q : Nat) (w : World) (hq : q < 131072) : Calls Tryz.prog 90 #[.int .i32 (q : Int)] w fun e w' => e = .returned (.int .i32 ((q / 2 : Nat) : Int)) ∧ w = w' := by
  go_enter Tryz.func90, Tryz.ntmps90
  go_wp2_with fail
  go_ret
  exact ⟨show Ending.returned (Value.int .i32 ((q : Int) / 2)) = _ by rw [show ((q : Int) / 2) = ((q / 2 : Nat) : Int) by omega], rfl⟩
theorem loth_any (q : Nat) (w : World) (hq : q < 131072) : Calls Tryz.prog 91 #[.int .i32 (q : Int)] w fun e w' => e = .returned (.int .i32 (oth q : Int)) ∧ w = w' := by
  have hb := bits_oth hq
  go_enter Tryz.func91, Tryz.ntmps91
  go_wp2_with fail
  go_ret
  exact ⟨rfl, rfl⟩
end Go.Proofs.YtpmdnbdmocdngaaGreat
