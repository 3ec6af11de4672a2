/-
  settle of package unit: what it answers, and what it leaves.
-/
import Derived.Test.YtigomnbcalpohaaUnitW
namespace Go.Proofs.Ytigomnbcalpohaa
open Go.ChangeShapes Go.WideShapes Go.ChangeAt Go.RowKit
set_option linter.unusedVariables false

/-- Parts that going through writes. -/
abbrev RF : Nat → Prop := fun r => r = 1 ∨ r = 3 ∨ r = 5 ∨ r = 6
def SettlePost (B : Nat) (τ : Nat → Nat) (W : World) (p n : Nat) (cs : List (List Int)) (lf : List Int) (F : Nat → List Nat) (hs : List Int) (cv lv wv tv : Value) (m : List Int) (D : Nat → List Int) (P : Nat → Prop) (e : Ending) (W' : World) : Prop :=
  (e = .returned (.bool true) ∧ ∃ τ' t' ex hv', Ch B τ' W' p n cs lf F t' (hs ++ ex) cv lv wv tv hv' ∧ Fw n cs m t' (hs ++ ex) D lf P ∧ Step RF τ τ' W W') ∨
  (e = .returned (.bool false) ∧ Ans n cs m none ∧ W = W')
section
variable {B : Nat} {τ : Nat → Nat} {W : World} {p n : Nat} {cs : List (List Int)} {lf : List Int} {F : Nat → List Nat} {t hs : List Int} {cv lv wv tv hv : Value} {m : List Int} {D : Nat → List Int} {P : Nat → Prop} {i : Nat} {c : List Int}
theorem Ch.leftAt (h : Ch B τ W p n cs lf F t hs cv lv wv tv hv) {i : Nat} {x : Int} (hx : lf[i]? = some x) : ∃ g cap, lv = .slice (some ⟨g, 0, none⟩) lf.length cap ∧ W.cell? ⟨g, i, none⟩ = some (.int .i64 x) ∧ W.frozen? ⟨g, i, none⟩ = false ∧ lf.length ≤ cap ∧ cap ≤ 9223372036854775807 := by
  obtain ⟨g, cap, h1, _, h2, h3, h4, h5⟩ := h.lrow.cells i (.int .i64 x) (by rw [List.getElem?_map, hx]; rfl)
  rw [List.length_map] at h1 h4
  exact ⟨g, cap, h1, h2, h3, h4, h5⟩
theorem Ch.clauseAt (h : Ch B τ W p n cs lf F t hs cv lv wv tv hv) (hc : cs[i]? = some c) : ∃ g cap A ccap, cv = .slice (some ⟨g, 0, none⟩) cs.length cap ∧ W.cell? ⟨g, i, none⟩ = some (.slice A c.length ccap) ∧ cs.length ≤ cap ∧ cap ≤ 9223372036854775807 ∧ SeqAt (Value.int .i64) W A c := by
  obtain ⟨cvs, h1, h2, h3⟩ := h.crow
  obtain ⟨v, hv, A, ccap, rfl, hl⟩ := h3 i c hc
  obtain ⟨g, cap, e1, _, e2, _, e4, e5⟩ := h1.cells i _ hv
  rw [h2] at e1 e4
  exact ⟨g, cap, A, ccap, e1, e2, e4, e5, ⟨fun j z hz => by obtain ⟨a, ha, hb, _⟩ := hl j z hz; exact ⟨a, ha, hb⟩⟩⟩
set_option maxHeartbeats 1600000 in
theorem settle_any (h : Ch B τ W p n cs lf F t hs cv lv wv tv hv) (fw : Fw n cs m t hs D lf P) (ok : FOk n cs) (hn : n ≤ 65536) (hc : cs[i]? = some c) (hcs : cs.length ≤ 100000) (hcl : c.length ≤ 100000) :
    Calls Try.prog 27 #[ptr p, .int .i64 (i : Nat)] W (SettlePost B τ W p n cs lf F hs cv lv wv tv m D (fun j => P j ∨ j = i)) := by
  have hcap0 : cnt (D i) c ≤ 100000 := Nat.le_trans (List.length_filter_le _ _) hcl
  have hlf := fw.left i c hc
  obtain ⟨lg, lcap, hlv, lc, _, lcap1, lcap2⟩ := h.leftAt hlf
  have c1 : W.cell? ⟨p, 1, none⟩ = some lv := h.blk.cell 1
  have c0 : W.cell? ⟨p, 0, none⟩ = some cv := h.blk.cell 0
  obtain ⟨cg, ccap, A, dcap, hcv, cc, ccap1, ccap2, hseq⟩ := h.clauseAt hc
  have hil : i < lf.length := (List.getElem?_eq_some_iff.1 hlf).1
  have hic : i < cs.length := (List.getElem?_eq_some_iff.1 hc).1
  have H := Lib.hid h
  have FW := Lib.hid fw
  have HC := Lib.hid hc
  have OK := Lib.hid ok
  have HS := Lib.hid hseq
  have hll := fw.len
  have stay : (2 ≤ cnt (D i) c ∨ ∃ x ∈ c, wo t x = 1) → Hid (SettlePost B τ W p n cs lf F hs cv lv wv tv m D (fun j => P j ∨ j = i) (.returned (.bool true)) W) := fun k =>
    .inl ⟨rfl, τ, t, [], hv, by rw [List.append_nil]; exact H.out, by rw [List.append_nil]; exact fw.also hc k, Step.refl _ _ _⟩
  have STAY := Lib.hid stay
  clear h fw hc ok hseq hlf stay
  subst hlv
  subst hcv
  by_cases h2 : 2 ≤ cnt (D i) c
  · have HE := STAY.out (.inl h2)
    clear STAY FW HC OK HS H
    generalize cnt (D i) c = k at *
    have h3 : (1 : Int) < (k : Int) := by omega
    go_enter Try.func27, Try.ntmps27
    go_wp2_with fail
    go_ret
    exact HE.out
  · have h3 : ¬ ((1 : Int) < (cnt (D i) c : Int)) := by omega
    have h4 : cnt (D i) c < 2 := by omega
    have OTH := Lib.hid (fun l hl h0 => FW.out.others (i := i) (c := c) (l := l) OK.out HC.out h4 hl h0)
    have HLD := Lib.hid (fun l hl h0 => FW.out.hold (i := i) (c := c) (l := l) OK.out HC.out h4 hl h0)
    have OKC := Lib.hid (fun l hl => OK.out c (List.mem_of_getElem? HC.out) l hl)
    have BAD := Lib.hid (fun hot => FW.out.bad (i := i) (c := c) HC.out hot)
    have TV' := Lib.hid FW.out.st.tv
    have hhs := FW.out.st.le
    have HHS : Hid (hs.length ≤ n) := hhs
    clear hhs h2 h4 FW HC OK
    generalize cnt (D i) c = k0 at *
    go_enter Try.func27, Try.ntmps27
    go_wp2_with fail
    go_loop [23] (fun v => ∃ k : Nat, k ≤ c.length ∧ v = .int .i64 k ∧ Hid (∀ y ∈ c.take k, wo t y = -1)) (fun v => c.length - (intOf v).toNat)
    case atStart => exact ⟨0, by omega, rfl, by simp [Hid]⟩
    case round =>
      obtain ⟨k, hk, rfl, G⟩ := hrel
      by_cases hlt : k < c.length
      · obtain ⟨l, hz⟩ : ∃ l, c[k]? = some l := ⟨_, List.getElem?_eq_getElem hlt⟩
        obtain ⟨a, rfl, hcell⟩ := HS.out.get k l hz
        have hm := List.mem_of_getElem? hz
        have okl := OKC.out l hm
        have cw := worth_any H.out TV'.out okl hn
        rcases wo_cases TV'.out l with e | e | e
        · rw [e] at cw
          have HE := Lib.hid (show ∀ y ∈ c.take (k + 1), wo t y = -1 from fun y hy => by
            rw [List.take_succ_eq_append_getElem hlt, (List.getElem?_eq_some_iff.1 hz).2] at hy
            rcases List.mem_append.1 hy with hy | hy
            · exact G.out y hy
            · simp at hy; subst hy; exact e)
          clear hz hm okl e G
          go_wp2_with (go_at_call 30; ((with_reducible refine cw.mono ?_); rintro e w' ⟨rfl, rfl⟩))
          go_round
          case rel => exact ⟨k + 1, by omega, by go_num, HE.out⟩
          case measure => simp [intOf]; omega
        · rw [e] at cw
          have ch := hold_any (l := l) H.out TV'.out okl hn (by have := HHS.out; omega)
          have HE := Lib.hid (HLD.out l hm e)
          clear hz hm okl e G
          go_wp2_with (first | (go_at_call 30; ((with_reducible refine cw.mono ?_); rintro e w' ⟨rfl, rfl⟩)) | (go_at_call 31; ((with_reducible refine ch.mono ?_); rintro e w' ⟨rfl, hp⟩; have HP := Lib.hid hp; clear hp)))
          go_ret
          obtain ⟨τ', hv', k1, k2⟩ := HP.out
          exact .inl ⟨rfl, τ', setL t l, [l], hv', k1, HE.out, k2.mono (fun r h => h.imp id .inr)⟩
        · rw [e] at cw
          have HE := STAY.out (.inr ⟨l, hm, e⟩)
          clear hz hm okl e G STAY
          go_wp2_with (go_at_call 30; ((with_reducible refine cw.mono ?_); rintro e w' ⟨rfl, rfl⟩))
          go_ret
          exact HE.out
      · have HE := Lib.hid (BAD.out (fun y hy => by have := G.out; rw [List.take_of_length_le (by omega)] at this; exact this y hy))
        clear G
        go_wp2_with fail
        go_ret
        exact .inr ⟨rfl, HE.out, rfl⟩
end
end Go.Proofs.Ytigomnbcalpohaa
