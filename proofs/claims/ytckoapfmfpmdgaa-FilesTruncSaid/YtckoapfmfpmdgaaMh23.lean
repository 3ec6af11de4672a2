/-
  Parts of the proof, joined: FileTr, FileQ.
-/
import Derived.Test.YtckoapfmfpmdgaaMh21
import Derived.Test.YtckoapfmfpmdgaaMh17
import Derived.Test.YtckoapfmfpmdgaaMh18
import Derived.Deep.OwnRows
import Derived.Deep.DeepCutAuto

namespace Go.Proofs.Ytckoapfmfpmdgaa
open Go.ChangeShapes Go.WideShapes Go.ChangeAt Go.RowKit Go.Joins
set_option linter.unusedVariables false
set_option linter.unusedSimpArgs false

set_option maxRecDepth 100000 in
theorem info_byte : ∃ i0, Try.prog.info? 5 = some i0 ∧ i0.zero = some (.int .u8 0) ∧ i0.size = 1 ∧ i0.bytes = 1 := ⟨_, rfl, rfl, rfl, rfl⟩
set_option maxRecDepth 100000 in
set_option maxHeartbeats 4000000 in
theorem trunc_else {T : FP} (C : FilesC T) {W : World} {n m ca cb : Nat} {A B : Option Addr} (h : 8 < n ∨ 60 < m) : Calls Try.prog 12 #[.slice A n ca, .slice B m cb] W fun e W' => e = .returned (.bool true) ∧ Gw W W' := by
  have hn : ∀ b w, (Op.unary .not (.bool b)).run Try.prog w = .ok (.bool (!b)) w := fun _ _ => rfl
  have AW := awake_files C W
  by_cases h0 : 8 < n
  · have n1 : (8 : Int) < n := by omega
    go_enter Try.func12, Try.ntmps12
    go_wp2_with (go_at_call 28; with_reducible refine AW.mono ?_; rintro e wa ⟨rfl, Ga⟩)
    go_ret
    exact ⟨rfl, Ga⟩
  · have n1 : ¬ (8 : Int) < n := by omega
    have n8 : (60 : Int) < m := by omega
    go_enter Try.func12, Try.ntmps12
    go_wp2_with (go_at_call 28; with_reducible refine AW.mono ?_; rintro e wa ⟨rfl, Ga⟩)
    go_ret
    exact ⟨rfl, Ga⟩
set_option maxRecDepth 100000 in
set_option maxHeartbeats 16000000 in
theorem trunc_main {T : FP} (C : FilesC T) {W : World} {ca cb : Nat} {A B : Option Addr} {bl : List UInt8} {ll : List Nat} (hx : BtA W (.slice A bl.length ca) bl) (hnil : A = none → bl.length = 0 ∧ ca = 0) (h8 : bl.length ≤ 8) (hl : ByIn W B ll) (h60 : ll.length ≤ 60) : Calls Try.prog 12 #[.slice A bl.length ca, .slice B ll.length cb] W fun e W' => e = .returned (.bool true) ∧ Gw W W' := by
  have hn : ∀ b w, (Op.unary .not (.bool b)).run Try.prog w = .ok (.bool (!b)) w := fun _ _ => rfl
  have AW := awake_files C W
  obtain ⟨i0, hi1, hi2, hi3, hi4⟩ := info_byte
  have HI := Lib.hid (And.intro hi1 (And.intro hi2 (And.intro hi3 hi4)))
  have hm8 : Hid (maxLen = 9223372036854775807) := rfl
  have n8 : ¬ (8 : Int) < bl.length := by omega
  have n60 : ¬ (60 : Int) < ll.length := by omega
  have H8 := Lib.hid h8
  have H60 := Lib.hid h60
  have HX := Lib.hid hx
  have HL := Lib.hid hl
  clear hi1 hi2 hi3 hi4
  go_enter Try.func12, Try.ntmps12
  go_upto_region 8 with (first
    | (go_at_call 28; with_reducible refine AW.mono ?_; rintro e wa ⟨rfl, Ga⟩; have hva := hx.on Ga; have Ga := Lib.hid Ga; have N1 := wr_start C hva h8; clear hva)
    | (go_at_call 30; refine N1.mono ?_; rintro e w0 ⟨a, rfl, M0, Gb⟩; clear N1; obtain ⟨K, hK⟩ : ∃ K : Nat → Prop, K = fun k => k < wa.heap.size := ⟨_, rfl⟩; rw [← hK] at M0; have Kb := Lib.hid (show ∀ x, x < W.heap.size → K x from (by rw [hK]; exact fun x hx => Nat.lt_of_lt_of_le hx Ga.out.size)); clear hK; have G0 := Lib.hid (Ga.out.trans Gb); have M0 := Lib.hid M0; have A1 : Calls Try.prog 33 #[.pointer (some a), .string ⟨#[97]⟩] w0 _ := x_open C M0.out ⟨#[97]⟩ (by decide) (wr_open h8) (few1 ltw1))
    | (go_at_call 33; with_reducible refine A1.mono ?_; clear A1; rintro e w1 ⟨rfl, M1, S1⟩; have G1 := Lib.hid (gw_sm G0.out (S1.less Kb.out)); have M1 := Lib.hid M1; clear S1; have A2 : Calls Try.prog 36 #[.pointer (some a), .int .u16 0, .int .u16 3] w1 _ := x_seek C M1.out 0 3 (by decide) (by decide) (wr_seek tw1 0 3 (by decide) [bl]) (few1 ltw1))
    | (go_at_call 36; with_reducible refine A2.mono ?_; clear A2; rintro e w2 ⟨rfl, M2, S2⟩; have G2 := Lib.hid (gw_sm G1.out (S2.less Kb.out)); have M2 := Lib.hid M2; clear S2))
  have own0 : (w2.alloc (.cells #[] 5)).ownsRow W.heap.size 5 1 (.slice (some ⟨w2.heap.size, 0, none⟩) 0 0) 0 [] := ⟨rfl, .inr ⟨w2.heap.size, 0, #[], rfl, G2.out.size, heap_alloc_new w2 _, Nat.le_refl _, Nat.zero_le _, rfl, rfl⟩⟩
  have hxb := (HX.out.on G2.out).on (Gw.alloc w2 (.cells #[] 5))
  go_upto_region 9 with (at_builtin; refine wp_append_or _ rfl _ _ _ rfl W.heap.size 5 i0 _ 1 1 Try.underlying52 HI.out.1 HI.out.2.1 HI.out.2.2.1 HI.out.2.2.2 rfl (by omega) (.slice (some ⟨w2.heap.size, 0, none⟩) 0 0) 0 [] rfl own0 A bl.length ca (byV bl) rfl hnil (by rw [byV_len]; omega) (fun j u hj => by
    obtain ⟨c, hc, rfl⟩ := byV_of hj
    obtain ⟨A', c', e, q1, q2, q3⟩ := hxb
    injection e with e1 e2 e3
    obtain ⟨b, off, e4, hcl⟩ := q3 j c hc
    exact ⟨⟨b, off, none⟩, by rw [e1, e4], by rw [add_eq]; exact hcl⟩) (byV_one _) (by have := hm8.out; have := H8.out; omega) (by have := H8.out; omega) (Nat.le_trans G2.out.size (Gw.alloc _ _).size) ?_; intro v3 w3 own3 gr3 at3)
  rw [Nat.zero_add, List.nil_append] at own3
  have HT0 := Lib.hid (TrI.start C M2.out Kb.out G2.out (.cells #[] 5) rfl rfl own3 gr3 at3)
  clear own3 gr3 at3 own0 hxb M2 M1 M0 Kb G2 G1 G0 Ga Gb
  go_upto_region 10 with fail
  go_loopw [7, 8] (fun mv i wr => ∃ (k : Nat) (d : List UInt8), i = .int .i64 k ∧ k ≤ ll.length ∧ d.length ≤ 8 ∧ Hid (TrI T W wr a mv d d)) (fun mv i _ => ll.length - (intOf i).toNat)
  case atStart => exact ⟨0, bl, rfl, Nat.zero_le _, H8.out, HT0⟩
  case round =>
    clear HT0
    obtain ⟨k, d, rfl, hk, hd8, HTI⟩ := hrel
    by_cases hlt : k < ll.length
    · obtain ⟨z, hz⟩ : ∃ z, ll[k]? = some z := ⟨_, List.getElem?_eq_getElem hlt⟩
      obtain ⟨gb, off, rfl, hgb, hcl, hz255⟩ := (HL.out.on HTI.out.gw) k z hz
      obtain ⟨n, hn11⟩ : ∃ n : Nat, (z : Int) % 11 = n := ⟨z % 11, by omega⟩
      have hnl : n < 11 := by omega
      obtain ⟨X7, c7, rfl⟩ := row_form HTI.out.row
      obtain ⟨K, hM, hK1, hK2⟩ := HTI.out.ex
      have HM := Lib.hid hM
      have HK1 := Lib.hid hK1
      have HK2 := Lib.hid hK2
      have hwn : IntKind.u16.wrap (n : Int) = n := by
        simp only [IntKind.wrap, IntKind.bits, IntKind.signed]
        simp
        omega
      have h62 : (k : Int) + 1 ≤ 9223372036854775807 := by have := H60.out; omega
      have HD8 := Lib.hid hd8
      clear hM hK1 hK2 hz hd8
      go_upto_region 13 with fail
      rw [hn11]
      clear hn11 hcl
      obtain ⟨wo, hwo⟩ : ∃ wo, wo = wr := ⟨_, rfl⟩
      subst hwo
      by_cases h8n : 8 < n
      · have h8n' : (8 : Int) < n := by omega
        have A4 : Calls Try.prog 41 #[.pointer (some a), .int .u16 0, .int .u16 (n : Int)] wo _ := x_trunc C HM.out 0 n (by decide) (by omega) (wr_long tw1 3 n h8n) (few1 ltw1)
        go_wp2_with (go_at_call 41; with_reducible refine A4.mono ?_; clear A4; rintro e w4 ⟨rfl, M4, S4⟩; have M4 := Lib.hid M4; have S4 := Lib.hid S4)
        go_roundw
        case rel => exact ⟨k + 1, d, by go_num, by omega, HD8.out, TrI.next (d := d) HTI.out.gw HTI.out.row HK1.out HK2.out M4.out S4.out⟩
        case measure => simp [intOf]; omega
      · have h8n' : decide ((8 : Int) < n) = false := decide_eq_false (by omega)
        have hn8 : n ≤ 8 := by omega
        have A4 : Calls Try.prog 41 #[.pointer (some a), .int .u16 0, .int .u16 (n : Int)] wo _ := x_trunc C HM.out 0 n (by decide) (by omega) (wr_trunc tw1 3 n hn8) (few1 ltw1)
        have HN8 := Lib.hid hn8
        clear hn8 h8n
        go_upto_region 17 with (go_at_call 41; with_reducible refine A4.mono ?_; clear A4; rintro e w4 ⟨rfl, M4, S4⟩; have HT4 := Lib.hid (TrI.next (d := d) HTI.out.gw HTI.out.row HK1.out HK2.out M4 S4); clear M4 S4)
        clear HTI HM HK1 HK2
        go_loopw [7] (fun mv wr => ∃ (m : List UInt8) (L : Nat) (X : Option Addr) (cap : Nat), mv = .slice X L cap ∧ Hid (TrI T W wr a (.slice X L cap) (cutL d n) m) ∧ Hid (m.length = L) ∧ Hid (∃ j, m = d ++ List.replicate j 0 ∧ (L ≤ n ∨ j = 0))) (fun mv _ => n - sLen mv)
        case atStart => exact ⟨d, _, X7, c7, rfl, HT4.out, rfl, 0, by simp, .inr rfl⟩
        case round =>
          clear HT4
          obtain ⟨m, L, X, cap, rfl, HJ, HLm, HJ2⟩ := hrel
          have HROW : Hid (wr.ownsRow W.heap.size 5 1 (.slice X L cap) L (byV m)) := by have := HJ.out.row; rw [HLm.out] at this; exact this
          by_cases hLn : L < n
          · have hLn' : (L : Int) < n := by omega
            have h63 : (L : Int) + 1 ≤ 9223372036854775807 := by omega
            go_wp2_with (at_builtin; refine wp_append_at _ rfl _ _ _ rfl W.heap.size 5 i0 _ 1 1 Try.underlying52 HI.out.1 HI.out.2.1 HI.out.2.2.1 HI.out.2.2.2 rfl (by omega) (.slice X L cap) L (byV m) rfl (HROW.out.alloc _) ⟨wr.heap.size, 0, none⟩ 1 1 [.int .u8 0] rfl rfl (World.news_of_block (heap_alloc_new wr _)) (by simp [Value.oneCell']) (by have := hm8.out; omega) (by omega) (Nat.le_trans HJ.out.gw.size (Gw.alloc _ _).size) ?_; intro v5 w5 own5 gr5 at5; obtain ⟨X5, c5, rfl⟩ := row_form own5)
            have HT5 := Lib.hid (TrI.more (m3 := m ++ [0]) C HJ.out (.cells #[.int .u8 0] 5) rfl (by rw [byV_app, List.length_append, HLm.out]; exact own5) gr5 at5)
            clear own5 gr5 at5
            go_roundw
            case rel =>
              refine ⟨m ++ [0], L + 1, X5, c5, rfl, HT5.out, by show _ = _; rw [List.length_append, HLm.out]; rfl, ?_⟩
              obtain ⟨j, e1, e2⟩ := HJ2.out
              exact ⟨j + 1, by rw [e1, List.replicate_succ', List.append_assoc], .inl hLn⟩
            case measure => simp [sLen]; omega
          · have hLn' : ¬ (L : Int) < n := by omega
            have hcut : Hid (m.take n = cutL d n) := by
              obtain ⟨j, e1, e2⟩ := HJ2.out
              have hl := HLm.out
              show _ = _
              rw [e1] at hl ⊢
              exact cut_grow (by omega) (by omega)
            have hcap : n ≤ cap := by
              rcases HROW.out.2 with ⟨h0, h1⟩ | ⟨g, c, cur, h0, _, _, h3, _⟩
              · omega
              · injection h0 with e1 e2 e3; omega
            have HT6 : Hid (TrI T W wr a (.slice X n cap) (cutL d n) (cutL d n)) := by
              have hr := row_cut HROW.out (show n ≤ L by omega)
              rw [byV_take, hcut.out] at hr
              obtain ⟨K, q1, q2, q3⟩ := HJ.out.ex
              exact ⟨HJ.out.gw, by rw [cutL_len]; exact hr, K, q1, q2, fun k hk => q3 k (by rw [← hk]; cases X <;> rfl)⟩
            have hdn := cutL_len (d := d) n
            clear HROW HJ HJ2 HLm hcut
            generalize cutL d n = dn at *
            have HDN := Lib.hid hdn
            clear hdn
            obtain ⟨K, hM, hK1, hK2⟩ := HT6.out.ex
            have HK1 := Lib.hid hK1
            have HK2 := Lib.hid hK2
            have HSZ : Hid (sizeF ⟨tw1, [dn], [(0, 3)], fd1⟩ 0 = (n : Int)) := by show _ = _; rw [wr_size, HDN.out]
            have A5 : Calls Try.prog 38 #[.pointer (some a), .string ⟨#[97]⟩] wr _ := x_data C hM ⟨#[97]⟩ (by decide) (wr_data [(0, 3)] fd1)
            have s1 : (0 : Int) ≤ n := by omega
            have s2 : (n : Int) ≤ cap := by omega
            clear hM hK1 hK2 hLn
            cases X with
            | none =>
              go_wp2_with (first
                | (go_at_call 38; with_reducible refine A5.mono ?_; clear A5; rintro e w5 ⟨x5, rfl, M5, S5, X5⟩; have X5 := Lib.hid X5; have M5 := Lib.hid M5; have S5 := Lib.hid S5; have A6 : Calls Try.prog 40 #[.pointer (some a), .int .u16 0] w5 _ := x_size C M5.out 0 (by decide) HSZ.out)
                | (go_at_call 40; with_reducible refine A6.mono ?_; clear A6; rintro e w6 ⟨rfl, M6, S6⟩; have c5 := conv_bta (X5.out.sm (fun j hj => .inr hj) S6); have HT7 := Lib.hid (TrI.next (d := dn) HT6.out.gw HT6.out.row HK1.out HK2.out (M6.less (fun j hj => .inl hj)) (S5.out.trans (S6.less (fun j hj => .inl hj)))); have c6 := conv_bta (row_bta HT7.out.row); clear M6 S6))
              go_roundw
              case rel => exact ⟨k + 1, dn, by go_num, by omega, by have := HDN.out; have := HN8.out; omega, HT7.out⟩
              case measure => simp [intOf]; omega
            | some ad =>
              go_wp2_with (first
                | (go_at_call 38; with_reducible refine A5.mono ?_; clear A5; rintro e w5 ⟨x5, rfl, M5, S5, X5⟩; have X5 := Lib.hid X5; have M5 := Lib.hid M5; have S5 := Lib.hid S5; have A6 : Calls Try.prog 40 #[.pointer (some a), .int .u16 0] w5 _ := x_size C M5.out 0 (by decide) HSZ.out)
                | (go_at_call 40; with_reducible refine A6.mono ?_; clear A6; rintro e w6 ⟨rfl, M6, S6⟩; have c5 := conv_bta (X5.out.sm (fun j hj => .inr hj) S6); have HT7 := Lib.hid (TrI.next (d := dn) HT6.out.gw HT6.out.row HK1.out HK2.out (M6.less (fun j hj => .inl hj)) (S5.out.trans (S6.less (fun j hj => .inl hj)))); have c6 := conv_bta (row_bta HT7.out.row); clear M6 S6))
              go_roundw
              case rel => exact ⟨k + 1, dn, by go_num, by omega, by have := HDN.out; have := HN8.out; omega, HT7.out⟩
              case measure => simp [intOf]; omega
    · have hlt' : ¬ (k : Int) < ll.length := by omega
      clear hlt
      obtain ⟨X7, c7, rfl⟩ := row_form HTI.out.row
      obtain ⟨K, hM, hK1, hK2⟩ := HTI.out.ex
      have HK1 := Lib.hid hK1
      have hrm : min 9 (d.length - 3) = d.length - 3 := by omega
      by_cases h3 : d.length - 3 = 0
      · have A8 : Calls Try.prog 35 #[.pointer (some a), .int .u16 0, .int .u16 9] wr _ := x_read C hM 0 9 (by decide) (by decide) (wr_none tw1 3 9 (by omega)) (few1 ltw1)
        have hmx : max (0 : Int) ((d.length : Int) - 3) = 0 := by omega
        have hd9 : d.length ≤ 9 := by omega
        have HTG := Lib.hid HTI.out.gw
        clear hM hK1 hK2 HTI hrm h3 hd8
        go_wp2_with (go_at_call 35; with_reducible refine A8.mono ?_; clear A8; rintro e w8 ⟨x8, rfl, M8, S8, X8⟩; obtain ⟨A9, p9, e9⟩ := bta_form X8; subst e9; have HG8 := Lib.hid (gw_sm HTG.out (S8.less HK1.out)); clear M8 S8 X8)
        go_ret
        exact ⟨rfl, HG8.out⟩
      · obtain ⟨q, hq⟩ : ∃ q, q = d.length - 3 := ⟨_, rfl⟩
        have A8 : Calls Try.prog 35 #[.pointer (some a), .int .u16 0, .int .u16 9] wr _ := x_read C hM 0 9 (by decide) (by decide) (wr_read tw1 3 9 q (by omega) (by omega)) (few1 ltw1)
        have hmx : max (0 : Int) ((d.length : Int) - 3) = q := by omega
        have hlq : ((d.drop 3).take q).length = q := by rw [List.length_take, List.length_drop]; omega
        have hq9 : q ≤ 9 := by omega
        have HTG := Lib.hid HTI.out.gw
        generalize (d.drop 3).take q = dq at *
        have HLQ := Lib.hid hlq
        clear hM hK1 hK2 HTI hrm h3 hd8 hq hlq
        go_wp2_with (go_at_call 35; with_reducible refine A8.mono ?_; clear A8; rintro e w8 ⟨x8, rfl, M8, S8, X8⟩; obtain ⟨A9, p9, e9⟩ := bta_form X8; rw [HLQ.out] at e9; subst e9; have HG8 := Lib.hid (gw_sm HTG.out (S8.less HK1.out)); clear M8 S8 X8)
        go_ret
        exact ⟨rfl, HG8.out⟩
theorem trunc_walk {T : FP} (C : FilesC T) {W : World} {x : Value} {cb : Nat} {B : Option Addr} {bl : List UInt8} {ll : List Nat} (hx : BtA W x bl) (hnil : ∀ n c, x = .slice none n c → n = 0 ∧ c = 0) (hl : ByIn W B ll) : Calls Try.prog 12 #[x, .slice B ll.length cb] W fun e W' => e = .returned (.bool true) ∧ Gw W W' := by
  obtain ⟨A, ca, rfl⟩ := bta_form hx
  by_cases h8 : 8 < bl.length
  · exact trunc_else C (.inl h8)
  by_cases h60 : 60 < ll.length
  · exact trunc_else C (.inr h60)
  exact trunc_main C hx (fun e => hnil _ _ (by rw [e])) (by omega) hl (by omega)
end Go.Proofs.Ytckoapfmfpmdgaa

namespace Go.Proofs.Ytckoapfmfpmdgaa
open Go.ChangeShapes Go.WideShapes Go.ChangeAt Go.RowKit Go.Joins
set_option linter.unusedVariables false
set_option linter.unusedSimpArgs false

abbrev noFd : List Int := [-1, -1, -1, -1]
structure NewI (s : Fs) (th : List Bool) (k n : Nat) : Prop where
  ok : FOk s
  len : s.t.l.length = n
  fil : ∀ i ∈ s.t.l, i.d = false
  tl : th.length = 26
  th : ∀ j, j < 26 → th[j]? = some (look s.t.l (lt1 j)).isSome
  nxk : s.t.nx ≤ k
  ok2 : s.o.length ≤ k
  fd : s.fd = noFd
  emp : ∀ x ∈ s.d, x = []
theorem NewI.few {s : Fs} {th : List Bool} {k n : Nat} (h : NewI s th k n) (hk : k ≤ 1000000) : Few s := ⟨by have := h.nxk; omega, by have := h.ok2; omega⟩
theorem newI_nil : NewI aw0 (List.replicate 26 false) 0 0 :=
  ⟨FOk.start Ok.nil (by decide) (by decide) (fun i h => (by cases h)) (fun i h => (by cases h)), rfl, fun i h => (by cases h), by simp, fun j hj => (by rw [List.getElem?_replicate, if_pos hj]; rfl), by decide, by decide, rfl, fun i h => (by cases h)⟩
section
variable {s : Fs} {th : List Bool} {k n j : Nat} (h : NewI s th k n) (hj : j < 26)
include h hj
theorem NewI.full (hb : th[j]? = some false) (hn : n = 8) : openF s (lt1 j) = (65308, s) ∧ bytesF s (lt1 j) = ([], 65282) ∧ NewI s th (k + 1) n := by
  have hk : look s.t.l (lt1 j) = none := by
    rw [h.th j hj] at hb
    cases hk : look s.t.l (lt1 j) with
    | none => rfl
    | some i => rw [hk] at hb; cases hb
  obtain ⟨h1, h2⟩ := lt1_name hj
  have h0 := lt1_abv hj s.t.l
  have hf := find_none h1 h0 hk
  have hm := make_full h1 h0 hk (by rw [h.len, hn]; exact Nat.le_refl _)
  refine ⟨?_, ?_, h.ok, h.len, h.fil, h.tl, h.th, by have := h.nxk; omega, by have := h.ok2; omega, h.fd, h.emp⟩
  · unfold openF
    rw [if_pos h1, hf, hm, h0, h.fd]
    show ((65308 : Int), Fs.mk s.t s.d s.o noFd) = (65308, s)
    rw [← h.fd]
  · unfold bytesF
    rw [hf]
    rfl
theorem NewI.there (hb : th[j]? = some true) : ∃ s1 s2, openF s (lt1 j) = (0, s1) ∧ closeF s1 0 = (0, s2) ∧ bytesF s2 (lt1 j) = ([], 0) ∧ NewI s2 th (k + 1) n ∧ s1.t.nx ≤ k ∧ s1.o.length ≤ k + 1 := by
  obtain ⟨i, hk, hd⟩ : ∃ i, look s.t.l (lt1 j) = some i ∧ i.d = false := by
    rw [h.th j hj] at hb
    cases hk : look s.t.l (lt1 j) with
    | none => rw [hk] at hb; cases hb
    | some i => exact ⟨i, rfl, h.fil i (look_mem hk)⟩
  obtain ⟨h1, h2⟩ := lt1_name hj
  have h0 := lt1_abv hj s.t.l
  have hf := find_some h1 h0 hk
  rw [hd] at hf
  have hi := h.ok.ids i (look_mem hk)
  have ho := h.ok.open_ (lt1 j)
  have e1 : openF s (lt1 j) = (0, { s with fd := [(s.o.length : Int), -1, -1, -1], o := s.o ++ [(i.n.toNat, 0)] }) := by
    unfold openF
    rw [if_pos h1, hf, h0, h.fd]
    rfl
  rw [e1] at ho
  have hc := ho.close 0
  have e2 : closeF { s with fd := [(s.o.length : Int), -1, -1, -1], o := s.o ++ [(i.n.toNat, 0)] } 0 = (0, { s with o := s.o ++ [(i.n.toNat, 0)], fd := noFd }) := by
    unfold closeF ofI
    have : ¬ (s.o.length : Int) < 0 := by omega
    simp only [List.getElem?_cons_zero, this, if_false]
    rfl
  rw [e2] at hc
  refine ⟨_, _, e1, e2, ?_, ⟨hc, h.len, h.fil, h.tl, h.th, by have := h.nxk; show s.t.nx ≤ ((k + 1 : Nat) : Int); omega, by have := h.ok2; show (s.o ++ [(i.n.toNat, 0)]).length ≤ k + 1; simp; omega, rfl, h.emp⟩, h.nxk, by have := h.ok2; show (s.o ++ [(i.n.toNat, 0)]).length ≤ k + 1; simp; omega⟩
  unfold bytesF
  rw [show findT (Fs.t { s with o := s.o ++ [(i.n.toNat, 0)], fd := noFd }).l (lt1 j) = (i.n, false, 0) from hf]
  have hlt : i.n.toNat < s.d.length := by omega
  show ((s.d[i.n.toNat]?.getD []), (0 : Int)) = ([], 0)
  rw [List.getElem?_eq_getElem hlt, Option.getD_some, h.emp _ (List.getElem_mem hlt)]
theorem NewI.make (hb : th[j]? = some false) (hn : n < 8) : ∃ s1 s2, openF s (lt1 j) = (0, s1) ∧ closeF s1 0 = (0, s2) ∧ bytesF s2 (lt1 j) = ([], 0) ∧ NewI s2 (th.set j true) (k + 1) (n + 1) ∧ s1.t.nx ≤ k + 1 ∧ s1.o.length ≤ k + 1 := by
  have hk : look s.t.l (lt1 j) = none := by
    rw [h.th j hj] at hb
    cases hk : look s.t.l (lt1 j) with
    | none => rfl
    | some i => rw [hk] at hb; cases hb
  obtain ⟨h1, h2⟩ := lt1_name hj
  have h0 := lt1_abv hj s.t.l
  have hf := find_none h1 h0 hk
  have hm := make_new h1 h0 hk (by rw [h.len]; omega)
  have ho := h.ok.open_ (lt1 j)
  have e1 : openF s (lt1 j) = (0, ⟨⟨s.t.l ++ [⟨lt1 j, false, s.t.nx⟩], s.t.nx + 1⟩, padD s.d s.t.nx, s.o ++ [(s.t.nx.toNat, 0)], [(s.o.length : Int), -1, -1, -1]⟩) := by
    unfold openF
    rw [if_pos h1, hf, hm, h0, h.fd]
    rfl
  rw [e1] at ho
  have hc := ho.close 0
  have e2 : closeF ⟨⟨s.t.l ++ [⟨lt1 j, false, s.t.nx⟩], s.t.nx + 1⟩, padD s.d s.t.nx, s.o ++ [(s.t.nx.toNat, 0)], [(s.o.length : Int), -1, -1, -1]⟩ 0 = (0, ⟨⟨s.t.l ++ [⟨lt1 j, false, s.t.nx⟩], s.t.nx + 1⟩, padD s.d s.t.nx, s.o ++ [(s.t.nx.toNat, 0)], noFd⟩) := by
    unfold closeF ofI
    have : ¬ (s.o.length : Int) < 0 := by omega
    simp only [List.getElem?_cons_zero, this, if_false]
    rfl
  rw [e2] at hc
  have hol : (s.o ++ [(s.t.nx.toNat, 0)]).length ≤ k + 1 := by have := h.ok2; simp; omega
  have hemp : ∀ x ∈ padD s.d s.t.nx, x = [] := fun x hx => by
    rcases List.mem_append.1 hx with hx | hx
    · exact h.emp x hx
    · exact (List.mem_replicate.1 hx).2
  have hnl : look (s.t.l ++ [⟨lt1 j, false, s.t.nx⟩]) (lt1 j) = some ⟨lt1 j, false, s.t.nx⟩ := by rw [look_snoc, hk]; simp
  have hnx := h.ok.nx
  refine ⟨_, _, e1, e2, ?_, ⟨hc, by show (s.t.l ++ [_]).length = _; simp [h.len], fun i hi => ?_, by simp [h.tl], fun x hx => ?_, by have := h.nxk; show s.t.nx + 1 ≤ ((k + 1 : Nat) : Int); omega, hol, rfl, hemp⟩, by have := h.nxk; show s.t.nx + 1 ≤ (k : Int) + 1; omega, hol⟩
  · unfold bytesF
    rw [show findT (s.t.l ++ [⟨lt1 j, false, s.t.nx⟩]) (lt1 j) = (s.t.nx, false, 0) from find_some (s := ⟨s.t.l ++ [⟨lt1 j, false, s.t.nx⟩], s.t.nx + 1⟩) h1 (lt1_abv hj _) hnl]
    have hlt : s.t.nx.toNat < (padD s.d s.t.nx).length := by rw [padD_len]; omega
    show (((padD s.d s.t.nx)[s.t.nx.toNat]?.getD []), (0 : Int)) = ([], 0)
    rw [List.getElem?_eq_getElem hlt, Option.getD_some, hemp _ (List.getElem_mem hlt)]
  · rcases List.mem_append.1 hi with hi | hi
    · exact h.fil i hi
    · rw [List.mem_singleton.1 hi]
  · show _ = some (look (s.t.l ++ [_]) (lt1 x)).isSome
    rw [List.getElem?_set, look_snoc]
    by_cases e : j = x
    · subst e
      rw [if_pos rfl, if_pos (by rw [h.tl]; exact hj), hk]
      simp
    · rw [if_neg e, h.th x hx]
      have : ¬ lt1 j = lt1 x := fun e2 => e (lt1_inj hj hx e2)
      cases look s.t.l (lt1 x) with
      | none => simp [this]
      | some i => rfl
end
def bF (th : List Bool) : Array Value := (th.map Value.bool).toArray
theorem bF_at {th : List Bool} {j : Nat} {b : Bool} (h : th[j]? = some b) : (bF th)[j]? = some (.bool b) := by unfold bF; simp [h]
theorem bF_set {th : List Bool} {j : Nat} {b : Bool} : (bF th).setIfInBounds j (.bool b) = bF (th.set j b) := by unfold bF; simp [List.map_set]
theorem lt1_conv (j : Nat) (hj : j < 26) (w : World) : (convert 52 9 (.slice (some ⟨w.heap.size, 0, none⟩) 1 1)).run Try.prog (w.alloc (.cells #[.int .u8 (97 + (j : Int))] 5)) = .ok (.string (bs (lt1 j))) (w.alloc (.cells #[.int .u8 (97 + (j : Int))] 5)) := by
  have := one_back w (97 + j) (by omega)
  rw [show ((97 + j : Nat) : Int) = 97 + (j : Int) by omega] at this
  exact this
set_option maxRecDepth 100000 in
set_option maxHeartbeats 4000000 in
theorem new_walk {T : FP} (C : FilesC T) {W : World} {A : Option Addr} {l : List Nat} {cap : Nat} (hl : ByIn W A l) (hc : l.length ≤ cap) (hm : cap ≤ 9223372036854775807) :
    Calls Try.prog 14 #[.slice A l.length cap] W fun e W' => e = .returned (.bool true) ∧ Gw W W' := by
  have hn : ∀ b w, (Op.unary .not (.bool b)).run Try.prog w = .ok (.bool (!b)) w := fun _ _ => rfl
  have AW := awake_files C W
  have NW : ∀ w, Calls Try.prog 30 #[.slice none 0 0, .slice none 0 0] w fun e w' => ∃ a, e = .returned (.tuple #[.pointer (some a), .int .i64 0]) ∧ Fx T (fun k => k < w.heap.size) w' (.pointer (some a)) aw0 ∧ Gw w w' := fun w => x_new C (EntAt.nil w) (DatN.nil w) (by simp) (by decide) (by decide) (s := aw0) (by decide +kernel)
  by_cases h100 : 100 < l.length
  · have h100' : (100 : Int) < l.length := by omega
    go_enter Try.func14, Try.ntmps14
    go_wp2_with (first
      | (go_at_call 28; with_reducible refine AW.mono ?_; rintro e w1 ⟨rfl, G1⟩)
      | (go_at_call 30; with_reducible refine (NW w1).mono ?_; rintro e w2 ⟨a, rfl, M, G2⟩))
    go_ret
    exact ⟨rfl, G1.trans G2⟩
  · have h100' : decide ((100 : Int) < l.length) = false := decide_eq_false (by omega)
    go_enter Try.func14, Try.ntmps14
    go_upto_region 9 with (first
      | (go_at_call 28; with_reducible refine AW.mono ?_; rintro e w1 ⟨rfl, G1⟩)
      | (go_at_call 30; with_reducible refine (NW w1).mono ?_; rintro e w2 ⟨a, rfl, M, G2⟩))
    have M2 := M.box C (.cells (bF (List.replicate 26 false)) 86)
    have H2 : Hid (Has (w2.alloc (.cells (bF (List.replicate 26 false)) 86)) w2.heap.size 86 (bF (List.replicate 26 false))) := Has.new _ _ _
    have G3 : Hid (Gw W (w2.alloc (.cells (bF (List.replicate 26 false)) 86))) := (G1.trans G2).trans (Gw.alloc _ _)
    obtain ⟨K, hK⟩ : ∃ K : Nat → Prop, K = fun k => k < w1.heap.size ∨ k = w2.heap.size := ⟨_, rfl⟩
    rw [← hK] at M2
    have M2 := Lib.hid M2
    have K1 : Hid (∀ x, x < W.heap.size → K x) := fun x hx => by rw [hK]; exact .inl (Nat.lt_of_lt_of_le hx G1.size)
    have K2 : Hid (K w2.heap.size) := by show K _; rw [hK]; exact .inr rfl
    have HG : Hid (W.heap.size ≤ w2.heap.size) := Nat.le_trans G1.size G2.size
    clear hK M NW AW
    rw [show (#[Value.bool false, .bool false, .bool false, .bool false, .bool false, .bool false, .bool false, .bool false, .bool false, .bool false, .bool false, .bool false, .bool false, .bool false, .bool false, .bool false, .bool false, .bool false, .bool false, .bool false, .bool false, .bool false, .bool false, .bool false, .bool false, .bool false] : Array Value) = bF (List.replicate 26 false) from rfl]
    generalize w2.heap.size = g at *
    generalize w2.alloc (.cells (bF (List.replicate 26 false)) 86) = w3 at *
    go_loopw [6, 7] (fun m i wr => ∃ (k n : Nat) (s : Fs) (th : List Bool), k ≤ l.length ∧ i = .int .i64 k ∧ m = .int .i64 n ∧ n ≤ 8 ∧ Hid (NewI s th k n) ∧ Hid (Fx T K wr (.pointer (some a)) s) ∧ Hid (Has wr g 86 (bF th)) ∧ Hid (Gw W wr)) (fun m i _ => l.length - (intOf i).toNat)
    case atStart => exact ⟨0, 0, aw0, List.replicate 26 false, by omega, rfl, rfl, by decide, newI_nil, M2, H2, G3⟩
    case round =>
      clear M2 H2 G3 G1 G2
      obtain ⟨k, n, s, th, hk, rfl, rfl, hn8, HF, HM, HH, GG⟩ := hrel
      by_cases hlt : k < l.length
      · obtain ⟨z, hz⟩ : ∃ z, l[k]? = some z := ⟨_, List.getElem?_eq_getElem hlt⟩
        obtain ⟨ga, off, rfl, hga, hcl, hz255⟩ := (hl.on GG.out) k z hz
        obtain ⟨j, hj⟩ : ∃ j : Nat, (z : Int) % 26 = j := ⟨z % 26, by omega⟩
        have hj26 : j < 26 := by omega
        have cv := lt1_conv j hj26
        obtain ⟨b, hb⟩ : ∃ b, th[j]? = some b := ⟨_, List.getElem?_eq_getElem (by rw [HF.out.tl]; exact hj26)⟩
        have HB := Lib.hid hb
        have hk2 : k ≤ 100 := by omega
        have hsz : (bs (lt1 j)).size ≤ 140737488351232 := by rw [bs_size]; show 1 ≤ _; decide
        clear hz hb
        go_upto_region 13 with fail
        rw [hj]
        have AL := Gw.alloc wr (.cells #[.int .u8 (97 + (j : Int))] 5)
        have HM := Lib.hid (HM.out.on C AL)
        have HH := Lib.hid (HH.out.on AL)
        have GG := Lib.hid (GG.out.trans AL)
        have hcl2 := AL.cell hcl
        clear cv hcl AL
        generalize wr.alloc (.cells #[.int .u8 (97 + (j : Int))] 5) = w3 at *
        cases b with
        | true =>
          obtain ⟨s1, s2, e1, e2, e3, I2, b1, b2⟩ := HF.out.there hj26 HB.out
          have hCL := Lib.hid e2
          have hDA := Lib.hid e3
          have HI := Lib.hid I2
          have few2 := Lib.hid (I2.few (by omega))
          have OP := x_open C HM.out (bs (lt1 j)) hsz (z := 0) (s' := s1) e1 ⟨by omega, by omega⟩
          clear e1 e2 e3 I2
          go_wp2_with (first
            | (go_at_call 33; with_reducible refine OP.mono ?_; rintro e w4 ⟨rfl, M4, S4⟩; have H4 := Lib.hid (HH.out.same (S4.block g K2.out)); have hb4 := (Has.cell H4.out j).trans (bF_at HB.out); have G4 := Lib.hid (gw_sm GG.out (S4.less K1.out)); clear OP)
            | (go_at_call 42; refine (x_close C M4 0 (by decide) hCL.out few2.out).mono ?_; rintro e w5 ⟨rfl, M5, S5⟩; have H5 := Lib.hid (H4.out.same (S5.block g K2.out)); have hb5 := (Has.cell H5.out j).trans (bF_at HB.out); have hf5 := Has.free H5.out j; have G5 := Lib.hid (gw_sm G4.out (S5.less K1.out)); have M5 := Lib.hid M5)
            | (go_at_call 38; refine (x_data C M5.out (bs (lt1 j)) hsz (z := 0) hDA.out).mono ?_; rintro e w6 ⟨x, rfl, M6, S6, BX⟩; obtain ⟨A6, c6, rfl, _⟩ := BX; have H6 := Lib.hid (H5.out.same (S6.block g K2.out)); have G6 := Lib.hid (gw_sm G5.out (S6.less K1.out)); have M6 := Lib.hid (M6.less (K' := K) fun _ h => .inl h); clear S6))
          go_roundw
          case rel => exact ⟨k + 1, n, s2, th, by omega, by go_num, rfl, by omega, HI, M6, H6, G6⟩
          case measure => simp [intOf]; omega
        | false =>
          by_cases h8 : n = 8
          · obtain ⟨e1, e3, I2⟩ := HF.out.full hj26 HB.out h8
            have hDA := Lib.hid e3
            have HI := Lib.hid I2
            have e8 : ((n : Int) == 8) = true := by rw [h8]; rfl
            have OP := x_open C HM.out (bs (lt1 j)) hsz (z := 65308) (s' := s) e1 (HF.out.few (by omega))
            clear e1 e3 I2
            go_wp2_with (first
              | (go_at_call 33; with_reducible refine OP.mono ?_; rintro e w4 ⟨rfl, M4, S4⟩; have H4 := Lib.hid (HH.out.same (S4.block g K2.out)); have hb4 := (Has.cell H4.out j).trans (bF_at HB.out); have G4 := Lib.hid (gw_sm GG.out (S4.less K1.out)); clear OP)
              | (go_at_call 38; refine (x_data C M4 (bs (lt1 j)) hsz (z := 65282) hDA.out).mono ?_; rintro e w6 ⟨x, rfl, M6, S6, BX⟩; obtain ⟨A6, c6, rfl, _⟩ := BX; have H6 := Lib.hid (H4.out.same (S6.block g K2.out)); have G6 := Lib.hid (gw_sm G4.out (S6.less K1.out)); have M6 := Lib.hid (M6.less (K' := K) fun _ h => .inl h); clear S6))
            go_roundw
            case rel => exact ⟨k + 1, n, s, th, by omega, by go_num, (by rw [h8]; rfl), by omega, HI, M6, H6, G6⟩
            case measure => simp [intOf]; omega
          · have h9 : n < 8 := by omega
            obtain ⟨s1, s2, e1, e2, e3, I2, b1, b2⟩ := HF.out.make hj26 HB.out h9
            have hCL := Lib.hid e2
            have hDA := Lib.hid e3
            have HI := Lib.hid I2
            have few2 := Lib.hid (I2.few (by omega))
            have e8 : ((n : Int) == 8) = false := by simp; omega
            have OP := x_open C HM.out (bs (lt1 j)) hsz (z := 0) (s' := s1) e1 ⟨by omega, by omega⟩
            clear e1 e2 e3 I2
            go_wp2_with (first
              | (go_at_call 33; with_reducible refine OP.mono ?_; rintro e w4 ⟨rfl, M4, S4⟩; have H4 := Lib.hid (HH.out.same (S4.block g K2.out)); have hb4 := (Has.cell H4.out j).trans (bF_at HB.out); have G4 := Lib.hid (gw_sm GG.out (S4.less K1.out)); clear OP)
              | (go_at_call 42; refine (x_close C M4 0 (by decide) hCL.out few2.out).mono ?_; rintro e w5 ⟨rfl, M5, S5⟩; have H5 := Lib.hid (H4.out.same (S5.block g K2.out)); have hb5 := (Has.cell H5.out j).trans (bF_at HB.out); have hf5 := Has.free H5.out j; have G5 := Lib.hid (gw_sm G4.out (S5.less K1.out)); have M5 := Lib.hid M5)
              | (go_at_call 38; refine (x_data C (M5.out.put C K2.out j (.bool true)) (bs (lt1 j)) hsz (z := 0) hDA.out).mono ?_; rintro e w6 ⟨x, rfl, M6, S6, BX⟩; obtain ⟨A6, c6, rfl, _⟩ := BX; have H6 : Hid (Has w6 g 86 (bF (th.set j true))) := (by show Has _ _ _ _; rw [← bF_set]; exact (H5.out.put j (.bool true)).same (S6.block g K2.out)); have G6 := Lib.hid (gw_sm ((But.set g _ j (.bool true)).gw G5.out HG.out) (S6.less K1.out)); have M6 := Lib.hid (M6.less (K' := K) fun _ h => .inl h); clear S6))
            go_roundw
            case rel => exact ⟨k + 1, n + 1, s2, _, by omega, by go_num, by go_num, by omega, HI, M6, H6, G6⟩
            case measure => simp [intOf]; omega
      · obtain rfl : k = l.length := by omega
        go_wp2
        go_ret
        exact ⟨rfl, GG.out⟩
end Go.Proofs.Ytckoapfmfpmdgaa
