/-
  The document's own bytes of a program.
-/
import Derived.Test.YtcecmkelefhaaaaDoorProgG
import Derived.Test.YtcecmkelefhaaaaDoorInstD
import Derived.Deep.Onto
namespace Go.Proofs.YtcecmkelefhaaaaDoor
open Go.ChangeShapes Go.WideShapes Go.ChangeAt Go.RowKit Go.Joins
set_option linter.unusedVariables false

/-- What a writer of bytes gives back: the error's number, and a row of the call's own. -/
abbrev BytesPost (L : List (Int × Int)) (N : List ByteArray) (w : World) (e : Ending) (w' : World) : Prop :=
  ∃ v, e = .returned (.tuple #[v, .int .i64 (errP L N)]) ∧ BRel w w' v (if errP L N = 0 then encP L N else [])
theorem err3 {L : List (Int × Int)} {N : List ByteArray} (h : 96 < L.length ∨ 8 < N.length) : errP L N = 3 := by unfold errP; rw [if_pos h]
theorem err10 {L : List (Int × Int)} {N : List ByteArray} (h1 : ¬ 96 < L.length) (h2 : ¬ 8 < N.length) {k : Nat} {s : ByteArray} (hs : N[k]? = some s) (h : ¬ s.size ≤ 255) : errP L N = 10 := by
  unfold errP
  rw [if_neg (by omega), if_pos (List.any_eq_true.2 ⟨s, List.mem_of_getElem? hs, decide_eq_true (by omega)⟩)]
theorem no10 {N : List ByteArray} (h : ∀ j s, j < N.length → N[j]? = some s → s.size ≤ 255) : N.any (fun s => decide (255 < s.size)) = false := by
  rw [List.any_eq_false]
  intro s hs
  obtain ⟨j, hj⟩ := List.getElem?_of_mem hs
  have := h j s (List.getElem?_eq_some_iff.1 hj).1 hj
  simp
  omega
theorem err5 {L : List (Int × Int)} {N : List ByteArray} (h1 : ¬ 96 < L.length) (h2 : ¬ 8 < N.length) (h3 : N.any (fun s => decide (255 < s.size)) = false) {k : Nat} {x : Int × Int} (hx : L[k]? = some x) (h : okI x = false) : errP L N = 5 := by
  unfold errP
  rw [if_neg (by omega), h3, if_neg (by decide), if_neg]
  intro ha
  have := List.all_eq_true.1 ha x (List.mem_of_getElem? hx)
  rw [h] at this
  cases this
theorem err0 {L : List (Int × Int)} {N : List ByteArray} (h1 : ¬ 96 < L.length) (h2 : ¬ 8 < N.length) (h3 : N.any (fun s => decide (255 < s.size)) = false) (h : ∀ x ∈ L, okI x = true) : errP L N = 0 := by
  unfold errP
  rw [if_neg (by omega), h3, if_neg (by decide), if_pos (List.all_eq_true.2 h)]
theorem BRel.none {w wr : World} (h : Gw w wr) : BRel w wr (.slice none 0 0) [] := ⟨⟨rfl, .inl ⟨rfl, rfl⟩⟩, h⟩
theorem post_err {L : List (Int × Int)} {N : List ByteArray} {w w' : World} {x : Int} (h : errP L N = x) (h0 : x ≠ 0) (hg : Gw w w') : BytesPost L N w (.returned (.tuple #[.slice Option.none 0 0, .int .i64 x])) w' :=
  ⟨_, by rw [h], by rw [if_neg (by rw [h]; exact h0)]; exact BRel.none hg⟩
theorem far1 {w : World} {base : Nat} {e : TypeId} {g n cap : Nat} {xs : List Value} (h : w.ownsRow base e 1 (.slice (some ⟨g, 0, Option.none⟩) n cap) n xs) {b : Nat} (hb : b < base) : some b ≠ (Value.slice (some ⟨g, 0, Option.none⟩) n cap).ownBlock := fun e => by
  have := (h.lt b e.symm).1
  omega
theorem u8_wrap {n : Int} (h0 : 0 ≤ n) (h1 : n ≤ 255) : IntKind.u8.wrap n = n := by
  simp only [IntKind.wrap, IntKind.bits, IntKind.signed]; simp; omega
theorem u8s_one {n : Nat} (h : n ≤ 255) : u8s [UInt8.ofNat n] = [.int .u8 (IntKind.u8.wrap n)] := by
  have e : IntKind.u8.wrap (n : Int) = n := by simp only [IntKind.wrap, IntKind.bits, IntKind.signed]; simp; omega
  have e2 : ((UInt8.ofNat n).toNat : Int) = n := by rw [UInt8.toNat_ofNat']; omega
  simp only [u8s, List.map_cons, List.map_nil]
  rw [e, e2]
theorem u8s_enc {x : Int × Int} (h1 : 1 ≤ x.1) (h2 : x.1 ≤ 41) (h3 : 0 ≤ x.2) (h4 : x.2 ≤ 65535) : u8s (encI x) = [.int .u8 (IntKind.u8.wrap x.1), .int .u8 (IntKind.u8.wrap (x.2 / 256)), .int .u8 (IntKind.u8.wrap x.2)] := by
  have w : ∀ n : Int, IntKind.u8.wrap n = n % 256 := fun n => by simp only [IntKind.wrap, IntKind.bits, IntKind.signed]; simp
  have t : ∀ n : Nat, ((UInt8.ofNat n).toNat : Int) = (n : Int) % 256 := fun n => by rw [UInt8.toNat_ofNat']; omega
  have e1 : ((UInt8.ofNat x.1.toNat).toNat : Int) = x.1 % 256 := by rw [t]; omega
  have e2 : ((UInt8.ofNat (x.2.toNat / 256)).toNat : Int) = (x.2 / 256) % 256 := by rw [t]; omega
  have e3 : ((UInt8.ofNat x.2.toNat).toNat : Int) = x.2 % 256 := by rw [t]; omega
  simp only [u8s, encI, List.map_cons, List.map_nil]
  rw [w, w, w, e1, e2, e3]
theorem rmay_any (x : Int × Int) (W : World) :
    Calls Tryd.prog 17 #[.agg #[.int .i64 x.1, .int .i64 x.2]] W fun e W' => e = .returned (.bool (okI x)) ∧ Grown W W' := by
  obtain ⟨op, a⟩ := x
  unfold okI
  simp only
  by_cases h : 1 ≤ op ∧ op < 42
  · obtain ⟨k, rfl⟩ : ∃ k : Nat, op = k := ⟨op.toNat, by omega⟩
    rw [decide_eq_true h, Bool.true_and]
    exact rmay_yes k a (by omega) (by omega) W
  · rw [decide_eq_false h, Bool.false_and]
    exact rmay_no op a h W
theorem okI_bd {x : Int × Int} (h : okI x = true) : 1 ≤ x.1 ∧ x.1 ≤ 41 ∧ 0 ≤ x.2 ∧ x.2 ≤ 65535 := by
  obtain ⟨op, a⟩ := x
  unfold okI at h
  simp only [Bool.and_eq_true, decide_eq_true_eq] at h
  obtain ⟨⟨h1, h2⟩, h3⟩ := h
  have all : ∀ j : Fin 42, ms j.val ≤ 65535 := by decide +kernel
  have h4 := all ⟨op.toNat, by omega⟩
  simp only [mayB, Bool.and_eq_true, decide_eq_true_eq] at h3
  simp only at h4
  exact ⟨h1, by omega, h3.1, by omega⟩
/-- The bytes so far, k instructions written. -/
def preI (L : List (Int × Int)) (N : List ByteArray) (k : Nat) : List UInt8 := ([88, 82, UInt8.ofNat N.length] ++ N.flatMap encS ++ [UInt8.ofNat L.length]) ++ (L.take k).flatMap encI
theorem preI_succ {L : List (Int × Int)} {N : List ByteArray} {k : Nat} {x : Int × Int} (h : L[k]? = some x) : preI L N (k + 1) = preI L N k ++ encI x := by
  obtain ⟨hi, he⟩ := List.getElem?_eq_some_iff.1 h
  unfold preI
  rw [List.take_succ_eq_append_getElem hi, he]
  simp
theorem preI_len {L : List (Int × Int)} {N : List ByteArray} (k : Nat) : (preI L N k).length ≤ (preI L N 0).length + k * 3 := by
  induction k with
  | zero => omega
  | succ k ih =>
    cases hk : L[k]? with
    | none =>
      have hl : L.length ≤ k := by rw [List.getElem?_eq_none_iff] at hk; exact hk
      have e : preI L N (k + 1) = preI L N k := by
        unfold preI
        rw [List.take_of_length_le (by omega), List.take_of_length_le hl]
      rw [e]
      omega
    | some x =>
      rw [preI_succ hk, List.length_append]
      have : (encI x).length = 3 := rfl
      omega
/-- The bytes so far, k names written. -/
def preN (N : List ByteArray) (k : Nat) : List UInt8 := [88, 82, UInt8.ofNat N.length] ++ (N.take k).flatMap encS
theorem preN_succ {N : List ByteArray} {k : Nat} {s : ByteArray} (h : N[k]? = some s) : preN N (k + 1) = (preN N k ++ [UInt8.ofNat s.size]) ++ s.data.toList := by
  obtain ⟨hi, he⟩ := List.getElem?_eq_some_iff.1 h
  unfold preN
  rw [List.take_succ_eq_append_getElem hi, he]
  simp [encS]
set_option maxRecDepth 20000 in
theorem preN_len {N : List ByteArray} (h : ∀ j s, j < N.length → N[j]? = some s → s.size ≤ 255) (k : Nat) : (preN N k).length ≤ 3 + k * 256 := by
  induction k with
  | zero => simp [preN]
  | succ k ih =>
    cases hk : N[k]? with
    | none =>
      have hl : N.length ≤ k := by rw [List.getElem?_eq_none_iff] at hk; exact hk
      unfold preN at *
      rw [List.take_of_length_le (by omega)]
      rw [List.take_of_length_le (by omega)] at ih
      omega
    | some s =>
      rw [preN_succ hk]
      have h1 := h k s (List.getElem?_eq_some_iff.1 hk).1 hk
      have h2 : s.data.toList.length = s.size := by rw [Array.length_toList]; rfl
      simp only [List.length_append, List.length_cons, List.length_nil]
      omega
theorem ofNat_toNat {n : Nat} (h : n ≤ 255) : ((UInt8.ofNat n).toNat : Int) = n := by
  rw [UInt8.toNat_ofNat']
  omega
set_option maxRecDepth 4000 in
set_option maxHeartbeats 4000000 in
theorem rbytes_any {W : World} {A B : Option Addr} {L : List (Int × Int)} {N : List ByteArray} {ca cb : Nat} (h : POk W A L ca B N cb) (hs1 : L.length ≤ 500) (hs2 : N.length ≤ 100) (hs3 : total N ≤ 5000) :
    Calls Tryd.prog 13 #[.agg #[.slice A L.length ca, .slice B N.length cb]] W (BytesPost L N W) := by
  have HK := Lib.hid (h.alloc (.cells #[.slice A L.length ca, .slice B N.length cb] 25))
  have HG := Lib.hid (Gw.alloc W (.cells #[.slice A L.length ca, .slice B N.length cb] 25))
  have HR := Lib.hid (heap_alloc_new W (.cells #[.slice A L.length ca, .slice B N.length cb] 25))
  obtain ⟨c0, c1, f0, f1⟩ := two_cells (heap_alloc_new W (.cells #[.slice A L.length ca, .slice B N.length cb] 25))
  clear h
  by_cases hL : 96 < L.length
  · go_enter Tryd.func13, Tryd.ntmps13
    go_wp2
    all_goals
      go_ret2
      exact post_err (err3 (.inl hL)) (by decide) HG.out
  by_cases hN : 8 < N.length
  · go_enter Tryd.func13, Tryd.ntmps13
    go_wp2
    all_goals
      go_ret2
      exact post_err (err3 (.inr hN)) (by decide) HG.out
  have hL' : (L.length : Int) ≤ 96 := by omega
  have hN' : (N.length : Int) ≤ 8 := by omega
  go_enter Tryd.func13, Tryd.ntmps13
  go_wp2
  generalize hW1 : W.alloc (.cells #[.slice A L.length ca, .slice B N.length cb] 25) = W1 at *
  go_loopw [4] (fun i wr => ∃ k : Nat, k ≤ N.length ∧ i = .int .i64 k ∧ Hid (∀ j s, j < k → N[j]? = some s → s.size ≤ 255) ∧ wr = W1) (fun i _ => N.length - (intOf i).toNat)
  case atStart => exact ⟨0, by omega, rfl, fun j s hj => by omega, rfl⟩
  case round =>
    obtain ⟨k, hk, rfl, HE, rfl⟩ := hrel
    by_cases hlt : k < N.length
    · obtain ⟨s, hs⟩ : ∃ s, N[k]? = some s := ⟨_, List.getElem?_eq_getElem hlt⟩
      obtain ⟨g, off, rfl, hg, hcell⟩ := HK.out.str k s hs
      by_cases h255 : s.size ≤ 255
      · have HE2 : Hid (∀ j s, j < k + 1 → N[j]? = some s → s.size ≤ 255) := fun j s' hj hs' => by
          by_cases e : j = k
          · subst e; rw [hs] at hs'; injection hs' with hs'; subst hs'; exact h255
          · exact HE.out j s' (by omega) hs'
        clear hs HE
        go_wp2
        refine ⟨⟨k + 1, by omega, by go_num, HE2, trivial⟩, ?_⟩
        simp [intOf]
        omega
      · have HX := Lib.hid (err10 hL hN hs h255)
        clear hs HE
        go_wp2
        go_ret2
        exact post_err HX.out (by decide) HG.out
    · obtain rfl : k = N.length := by omega
      have HE2 := Lib.hid HE.out
      clear HE
      have h10 := Lib.hid (no10 HE2.out)
      obtain ⟨i0, hi1, hi2, hi3, hi4⟩ := info_u8
      have HI := Lib.hid (show _ ∧ _ ∧ _ ∧ _ from ⟨hi1, hi2, hi3, hi4⟩)
      clear hi1 hi2 hi3 hi4
      go_wp2
      obtain ⟨wo, hwo⟩ : ∃ x, x = wr := ⟨_, rfl⟩
      subst hwo
      go_loopw [5, 6] (fun v i wr => ∃ (k : Nat) (A2 : Option Addr) (c2 : Nat), k ≤ N.length ∧ i = .int .i64 k ∧ v = .slice A2 (preN N k).length c2 ∧ Hid (BRel wo wr (.slice A2 (preN N k).length c2) (preN N k))) (fun _ i _ => N.length - (intOf i).toNat)
      case atStart =>
        refine ⟨0, _, 3, by omega, rfl, rfl, ?_⟩
        have hb := BRel.lit wo wo (Gw.refl wo) (preN N 0) (by simp [preN, maxLen])
        have hc : (u8s (preN N 0)).toArray = #[.int .u8 88, .int .u8 82, .int .u8 N.length] := by
          simp only [preN, List.take_zero, List.flatMap_nil, List.append_nil, u8s, List.map_cons, List.map_nil]
          rw [ofNat_toNat (by omega)]
          rfl
        rw [hc] at hb
        exact hb
      case round =>
        obtain ⟨k, A2, c2, hk, rfl, rfl, R⟩ := hrel
        by_cases hlt : k < N.length
        · obtain ⟨s, hs⟩ : ∃ s, N[k]? = some s := ⟨_, List.getElem?_eq_getElem hlt⟩
          have HKr := Lib.hid (HK.out.keep (fun j hj => R.out.gw.block j hj) R.out.gw.size)
          obtain ⟨g, off, rfl, hg, hcell⟩ := HKr.out.str k s hs
          have d0 := R.out.gw.cell c0
          have d1 := R.out.gw.cell c1
          have h255 : s.size ≤ 255 := HE2.out k s hlt hs
          have HQ := Lib.hid (preN_succ hs)
          have hPl := preN_len HE2.out k
          have hP : (preN N k).length ≤ 3000 := by omega
          have HB := Lib.hid (ofNat_toNat h255)
          have HS := Lib.hid hs
          clear hPl hs
          generalize preN N k = Pk at *
          have hsz : ((s.size : Nat) : Int) ≤ 255 := by omega
          have hW : W.heap.size < wo.heap.size := lt_cell c1
          have hgw : g < wo.heap.size := by
            obtain ⟨g', off', e', h', _⟩ := HK.out.str k s HS.out
            injection e' with e'; injection e' with e1 _ _; subst e1; exact h'
          have HF1 := Lib.hid (R.out.far hW)
          have HF2 := Lib.hid (R.out.far hgw)
          have HSZ := Lib.hid R.out.gw.size
          go_wp2
          go_region_held3 (fun w' => w'.cell? ⟨W.heap.size, 1, none⟩ = some (.slice (some ⟨g, off, none⟩) N.length cb) ∧ w'.cell? ⟨g, off + k, none⟩ = some (.string s))
            (first | go_keep | exact ⟨q1, q2⟩ | exact ⟨q3, q4⟩)
            (first
              | ((refine step_append_lies _ (by rfl) _ _ _ (by rfl) wo.heap.size 5 i0 _ 1 1 Tryd.underlying28 HI.out.1 HI.out.2.1 HI.out.2.2.1 HI.out.2.2.2 rfl (by omega) (.slice A2 Pk.length c2) Pk.length (u8s Pk) (by rfl) ((R.out.own.alloc _).drew) ⟨wr.heap.size, 0, none⟩ 1 1 [.int .u8 (IntKind.u8.wrap s.size)] (by rfl) (by rfl) (World.news_of_block (cs := #[.int .u8 (IntKind.u8.wrap s.size)]) (t := 5) (fr := (0, 0)) (heap_alloc_new wr _)) (by simp [Value.oneCell']) (by omega) (by unfold maxLen; omega) (by omega) (by have := HSZ.out; simp; omega) (wr.heap.size + 1) (by simp) ?_; intro g1 c9 w1 hown1 hgrow1 hat1 hlt1; have q1 := hgrow1.cell ((Gw.alloc wr _).cell d1) HF1.out; have q2 := hgrow1.cell ((Gw.alloc wr _).cell hcell) HF2.out))
              | (refine step_append_string w1 (by rfl) _ _ _ _ (by rfl) wo.heap.size 5 i0 Tryd.underlying28 Tryd.underlying9 HI.out.1 HI.out.2.1 HI.out.2.2.1 HI.out.2.2.2 (.slice (some ⟨g1, 0, none⟩) (Pk.length + 1) c9) (Pk.length + 1) (u8s Pk ++ [.int .u8 (IntKind.u8.wrap s.size)]) (by rfl) hown1 s (by rfl) (by unfold maxLen; omega) (by omega) (by have := HSZ.out; have := hgrow1.size; simp at this; omega) ?_; intro v2 w2 hown2 hgrow2 hnil2; have q3 := hgrow2.cell q1 (far1 hown1 hW); have q4 := hgrow2.cell q2 (far1 hown1 hgw)))
          have R1 : BRel wo w1 (.slice (some ⟨g1, 0, Option.none⟩) (Pk.length + 1) c9) (Pk ++ [UInt8.ofNat s.size]) := R.out.more (m := [UInt8.ofNat s.size]) (by rw [u8s_one h255]; exact hown1) (by simp) (Gw.alloc wr _).drew hgrow1
          have R2 : BRel wo w2 v2 ((Pk ++ [UInt8.ofNat s.size]) ++ s.data.toList) := R1.more (m := s.data.toList) (by rw [u8s_app, u8s_one h255, ← strCells_eq]; exact hown2) (by rw [List.length_append, Array.length_toList]; rfl) (Gw.refl w1) hgrow2
          obtain ⟨A3, c3, rfl⟩ := R2.shape
          rw [← HQ.out] at R2
          have HQL := Lib.hid (congrArg List.length HQ.out)
          clear hown1 hown2 hgrow1 hgrow2 hat1 hnil2 R1 hlt1
          go_wp2
          refine ⟨⟨k + 1, A3, c3, by omega, by go_num, by rw [HQ.out], R2⟩, ?_⟩
          simp [intOf]
          omega
        · obtain rfl : k = N.length := by omega
          have d0 := R.out.gw.cell c0
          have d1 := R.out.gw.cell c1
          have HSZ := Lib.hid R.out.gw.size
          have hP := preN_len HE2.out N.length
          have hP2 : (preN N N.length).length ≤ 3000 := by omega
          have HPE : Hid (preN N N.length = [88, 82, UInt8.ofNat N.length] ++ N.flatMap encS) := by unfold preN; rw [List.take_length]; rfl
          generalize preN N N.length = Pk at *
          clear hP
          go_wp2_with (at_builtin; refine wpList_append_lies _ rfl _ _ _ rfl wo.heap.size 5 i0 _ 1 1 Tryd.underlying28 HI.out.1 HI.out.2.1 HI.out.2.2.1 HI.out.2.2.2 rfl (by omega) (.slice A2 Pk.length c2) Pk.length (u8s Pk) rfl (R.out.own.alloc _) ⟨wr.heap.size, 0, none⟩ 1 1 [.int .u8 L.length] rfl rfl (World.news_of_block (cs := #[.int .u8 L.length]) (t := 5) (fr := (0, 0)) (heap_alloc_new wr _)) (by simp [Value.oneCell']) (by omega) (by unfold maxLen; omega) (by omega) (by have := HSZ.out; simp; omega) (wr.heap.size + 1) (by simp) ?_; intro g1 c9 w1 hown1 hgrow1 hat1 hlt1)
          have R1 : BRel wo w1 (.slice (some ⟨g1, 0, Option.none⟩) (Pk.length + 1) c9) (Pk ++ [UInt8.ofNat L.length]) := R.out.more (m := [UInt8.ofNat L.length]) (by rw [u8s_one (by omega), u8_wrap (by omega) (by omega)]; exact hown1) (by simp) (Gw.alloc wr _) hgrow1
          have hP0 : Pk ++ [UInt8.ofNat L.length] = preI L N 0 := by rw [HPE.out]; simp [preI]
          rw [hP0] at R1
          have hP0l : Pk.length + 1 = (preI L N 0).length := by rw [← hP0, List.length_append]; rfl
          have hPI : (preI L N 0).length ≤ 3001 := by omega
          obtain ⟨wp, hwp⟩ : ∃ x, x = w1 := ⟨_, rfl⟩
          subst hwp
          rw [hP0l] at R1 ⊢
          clear hown1 hgrow1 hat1 hlt1 hP0 hP0l HPE hP2 R
          generalize hq0 : preI L N 0 = P0 at *
          go_loopw [5, 7] (fun v i wr => ∃ (k : Nat) (A2 : Option Addr) (c2 : Nat), k ≤ L.length ∧ i = .int .i64 k ∧ v = .slice A2 (preI L N k).length c2 ∧ Hid (∀ j x, j < k → L[j]? = some x → okI x = true) ∧ Hid (BRel wo wr (.slice A2 (preI L N k).length c2) (preI L N k))) (fun _ i _ => L.length - (intOf i).toNat)
          case atStart => exact ⟨0, _, _, by omega, rfl, by rw [hq0], fun j x hj => by omega, by rw [hq0]; exact R1⟩
          case round =>
            obtain ⟨k, A2, c2, hk, rfl, rfl, HE, R⟩ := hrel
            have d0 := R.out.gw.cell c0
            have d1 := R.out.gw.cell c1
            by_cases hlt : k < L.length
            · obtain ⟨x, hx⟩ : ∃ x, L[k]? = some x := ⟨_, List.getElem?_eq_getElem hlt⟩
              have HKr := Lib.hid (HK.out.keep (fun j hj => R.out.gw.block j hj) R.out.gw.size)
              have hgo : ∀ g off, A = some ⟨g, off, Option.none⟩ → g < wo.heap.size := fun g off e => by
                obtain ⟨g', off', e', h', _⟩ := HK.out.inst k x hx
                rw [e] at e'
                injection e' with e'; injection e' with e1 _ _; subst e1; exact h'
              obtain ⟨g, off, rfl, hg, hc0, hc1⟩ := HKr.out.inst k x hx
              have hgw := hgo g off rfl
              clear hgo
              have F := rmay_any x
              cases hok : okI x with
              | false =>
                have HX := Lib.hid (err5 hL hN h10.out hx hok)
                rw [hok] at F
                clear hx HE hok
                go_wp2_with (go_at_call 17; with_reducible refine (F _).mono ?_; rintro e w' ⟨rfl, G1⟩)
                go_ret2
                exact post_err HX.out (by decide) (HG.out.trans (R.out.gw.trans (Grown.gw G1)))
              | true =>
                have HE2 : Hid (∀ j y, j < k + 1 → L[j]? = some y → okI y = true) := fun j y hj hy => by
                  by_cases e : j = k
                  · subst e; rw [hx] at hy; injection hy with hy; subst hy; exact hok
                  · exact HE.out j y (by omega) hy
                have HQ := Lib.hid (preI_succ (N := N) hx)
                have HOK := Lib.hid hok
                have hPl := preI_len (L := L) (N := N) k
                rw [hq0] at hPl
                have hP : (preI L N k).length ≤ 4000 := by omega
                rw [hok] at F
                clear hPl hx HE hok
                generalize preI L N k = Pk at *
                have hnw : ∀ w' : World, (Op.unary .not (.bool true)).run Tryd.prog w' = .ok (.bool false) w' := fun _ => rfl
                go_wp2_with (go_at_call 17; with_reducible refine (F _).mono ?_; rintro e w' ⟨rfl, G1⟩; have Rn := R.out.next G1; have e0 := Rn.gw.cell c0; have e1 := Rn.gw.cell c1; have e2 := (Grown.gw G1).cell hc0; have e3 := (Grown.gw G1).cell hc1)
                obtain ⟨b1, b2, b3, b4⟩ := okI_bd HOK.out
                have HF1 := Lib.hid (Rn.far (lt_cell c0))
                have HF2 := Lib.hid (Rn.far hgw)
                have HSZ := Lib.hid Rn.gw.size
                go_region_held3 (fun w' => w'.cell? ⟨W.heap.size, 0, none⟩ = some (.slice (some ⟨g, off, none⟩) L.length ca) ∧ w'.cell? ⟨g, off + k * 2, none⟩ = some (.int .i64 x.1) ∧ w'.cell? ⟨g, off + k * 2 + 1, none⟩ = some (.int .i64 x.2))
                  (first | go_keep | exact ⟨q1, q2, q3⟩)
                  ((refine step_append_lies _ (by rfl) _ _ _ (by rfl) wo.heap.size 5 i0 _ 1 1 Tryd.underlying28 HI.out.1 HI.out.2.1 HI.out.2.2.1 HI.out.2.2.2 rfl (by omega) (.slice A2 Pk.length c2) Pk.length (u8s Pk) (by rfl) ((Rn.own.alloc _).drew) ⟨w'.heap.size, 0, none⟩ 3 3 [.int .u8 (IntKind.u8.wrap x.1), .int .u8 (IntKind.u8.wrap (x.2 / 256)), .int .u8 (IntKind.u8.wrap x.2)] (by rfl) (by rfl) (World.news_of_block (cs := #[.int .u8 (IntKind.u8.wrap x.1), .int .u8 (IntKind.u8.wrap (x.2 / 256)), .int .u8 (IntKind.u8.wrap x.2)]) (t := 5) (fr := (0, 0)) (heap_alloc_new w' _)) (by simp [Value.oneCell']) (by omega) (by unfold maxLen; omega) (by omega) (by have := HSZ.out; simp; omega) (w'.heap.size + 1) (by simp) ?_; intro g1 c9 w1 hown1 hgrow1 hat1 hlt1; have q1 := hgrow1.cell ((Gw.alloc w' _).cell e0) HF1.out; have q2 := hgrow1.cell ((Gw.alloc w' _).cell e2) HF2.out; have q3 := hgrow1.cell ((Gw.alloc w' _).cell e3) HF2.out))
                have R1 : BRel wo w1 (.slice (some ⟨g1, 0, Option.none⟩) (Pk.length + 3) c9) (Pk ++ encI x) := Rn.more (m := encI x) (by rw [u8s_enc b1 b2 b3 b4]; exact hown1) rfl (Gw.alloc w' _).drew hgrow1
                rw [← HQ.out] at R1
                have hlen : Pk.length + 3 = (preI L N (k + 1)).length := by rw [HQ.out, List.length_append]; rfl
                have HLEN := Lib.hid hlen
                clear hlen hown1 hgrow1 hat1 hlt1
                go_wp2
                refine ⟨⟨k + 1, some ⟨g1, 0, Option.none⟩, c9, by omega, by go_num, by rw [HLEN.out], HE2, by have := R1; rw [HLEN.out] at this; exact this⟩, ?_⟩
                simp [intOf]
                omega
            · obtain rfl : k = L.length := by omega
              have HX : errP L N = 0 := err0 hL hN h10.out (fun x hx => by
                obtain ⟨j, hj⟩ := List.getElem?_of_mem hx
                exact HE.out j x (List.getElem?_eq_some_iff.1 hj).1 hj)
              have HXH := Lib.hid HX
              have hpl : preI L N L.length = encP L N := by
                unfold preI encP
                rw [List.take_length]
              have HPL := Lib.hid hpl
              clear hpl
              clear HX
              go_wp2
              go_ret2
              refine ⟨.slice A2 (preI L N L.length).length c2, by rw [HXH.out]; rfl, ?_⟩
              rw [if_pos HXH.out, ← HPL.out]
              exact ⟨R.out.own.mono HG.out.size, HG.out.trans R.out.gw⟩
end Go.Proofs.YtcecmkelefhaaaaDoor
