/-
  Bytes of package prog: a program's bytes, or why there are none.
-/
import Derived.Test.YtcecmkelefhaaaaDoorProgF
import Derived.Test.YtcecmkelefhaaaaDoorProgP
import Derived.Deep.Onto
import Derived.Deep.CutBlock
import Derived.Deep.CutRange
import Derived.Deep.DeepCutAuto
namespace Go.Proofs.YtcecmkelefhaaaaDoor
open Go.ChangeShapes Go.WideShapes Go.ChangeAt Go.RowKit Go.Joins
set_option linter.unusedVariables false

theorem u8s_size {n : Nat} (h : n ≤ 255) : u8s [UInt8.ofNat n] = [.int .u8 (n : Int)] := by rw [u8s_one h, u8_wrap (by omega) (by omega)]
theorem u8s_enc2 {x : Int × Int} (h1 : 1 ≤ x.1) (h2 : x.1 ≤ 41) (h3 : 0 ≤ x.2) (h4 : x.2 ≤ 65535) : u8s (encI x) = [.int .u8 x.1, .int .u8 (x.2 / 256), .int .u8 (x.2 % 256)] := by
  have w : ∀ n : Int, IntKind.u8.wrap n = n % 256 := fun n => by simp only [IntKind.wrap, IntKind.bits, IntKind.signed]; simp
  rw [u8s_enc h1 h2 h3 h4, w, w, w, Int.emod_eq_of_lt (by omega) (by omega), Int.emod_eq_of_lt (a := x.2 / 256) (by omega) (by omega)]
theorem heap_two (w : World) (o1 o2 : Obj) : ((w.alloc o1).alloc o2).heap[w.heap.size + 1]? = some o2 := by
  have h := heap_alloc_new (w.alloc o1) o2
  have e : (w.alloc o1).heap.size = w.heap.size + 1 := by show (w.heap.push o1).size = _; simp
  rw [e] at h
  exact h
set_option maxRecDepth 4000 in
set_option maxHeartbeats 4000000 in
theorem bytes_any {W : World} {A B : Option Addr} {L : List (Int × Int)} {N : List ByteArray} {ca cb : Nat} (h : POk W A L ca B N cb) :
    Calls Tryd.prog 12 #[.agg #[.slice A L.length ca, .slice B N.length cb]] W (BytesPost L N W) := by
  have HK := Lib.hid (h.alloc (.cells #[.slice A L.length ca, .slice B N.length cb] 25))
  have HG := Lib.hid (Gw.alloc W (.cells #[.slice A L.length ca, .slice B N.length cb] 25))
  obtain ⟨c0, c1, f0, f1⟩ := two_cells (heap_alloc_new W (.cells #[.slice A L.length ca, .slice B N.length cb] 25))
  have RF := refusal_any HK.out
  clear h f0 f1
  by_cases h0 : errP L N = 0
  · rw [h0] at RF
    obtain ⟨hL, hN, he2, hokk⟩ := err0_is h0
    have HZ := Lib.hid h0
    have HE2 := Lib.hid he2
    have HOK := Lib.hid hokk
    clear h0 he2 hokk
    obtain ⟨i0, hi1, hi2, hi3, hi4⟩ := info_u8
    have HI := Lib.hid (show _ ∧ _ ∧ _ ∧ _ from ⟨hi1, hi2, hi3, hi4⟩)
    clear hi1 hi2 hi3 hi4
    go_enter Tryd.func12, Tryd.ntmps12
    go_upto_region 4 with (go_at_call 20; with_reducible refine RF.mono ?_; rintro e w1 ⟨rfl, G1⟩; have d0 := G1.cell c0; have d1 := G1.cell c1)
    have HK1 := Lib.hid (HK.out.gw G1)
    have HG1 := Lib.hid (HG.out.trans G1)
    have hlt1 : W.heap.size < w1.heap.size := lt_cell d0
    clear HK HG c0 c1 RF G1
    go_wp2_with fail
    obtain ⟨wo, hwo⟩ : ∃ x, x = w1 := ⟨_, rfl⟩
    subst hwo
    go_loopw [5, 23] (fun v i wr => ∃ (k : Nat) (A2 : Option Addr) (c2 : Nat), k ≤ N.length ∧ i = .int .i64 k ∧ v = .slice A2 (preN N k).length c2 ∧ Hid (BRel wo wr (.slice A2 (preN N k).length c2) (preN N k))) (fun _ i _ => N.length - (intOf i).toNat)
    case atStart =>
      refine ⟨0, _, 3, by omega, rfl, rfl, ?_⟩
      have hb := BRel.lit wo wo (Gw.refl wo) (preN N 0) (by simp [preN, maxLen])
      have hc : (u8s (preN N 0)).toArray = #[.int .u8 88, .int .u8 82, .int .u8 N.length] := by
        simp only [preN, List.take_zero, List.flatMap_nil, List.append_nil, u8s, List.map_cons, List.map_nil]
        rw [ofNat_toNat (by omega)]
        rfl
      rw [hc] at hb
      exact hb
    case round =>
      obtain ⟨k, A2, c2, hk, rfl, rfl, R⟩ := hrel
      by_cases hlt : k < N.length
      · obtain ⟨s, hs⟩ : ∃ s, N[k]? = some s := ⟨_, List.getElem?_eq_getElem hlt⟩
        obtain ⟨g, off, rfl, hg, hcell⟩ := (HK1.out.gw R.out.gw).str k s hs
        have h255 : s.size ≤ 255 := HE2.out s (List.mem_of_getElem? hs)
        have HQ := Lib.hid (preN_succ hs)
        have hPl := preN_len (fun j s _ h => HE2.out s (List.mem_of_getElem? h)) k
        have hP : (preN N k).length ≤ 3000 := by omega
        clear hPl hs
        generalize preN N k = Pk at *
        have hsz : ((s.size : Nat) : Int) ≤ 255 := by omega
        have HSZ := Lib.hid R.out.gw.size
        go_upto_region 9 with (at_builtin; refine wpList_append_lies _ rfl _ _ _ rfl wo.heap.size 5 i0 _ 1 1 Tryd.underlying28 HI.out.1 HI.out.2.1 HI.out.2.2.1 HI.out.2.2.2 rfl (by omega) (.slice A2 Pk.length c2) Pk.length (u8s Pk) rfl (R.out.own.alloc _) ⟨wr.heap.size, 0, none⟩ 1 1 [.int .u8 s.size] rfl rfl (World.news_of_block (cs := #[.int .u8 s.size]) (t := 5) (fr := (0, 0)) (heap_alloc_new wr _)) (by simp [Value.oneCell']) (by omega) (by unfold maxLen; omega) (by omega) (by have := HSZ.out; simp; omega) (wr.heap.size + 1) (by simp) ?_; intro g1 c9 w1 hown1 hgrow1 hat1 hlt1)
        go_wp2_with (at_builtin; refine Lib.wpList_append_own_string _ rfl _ _ _ _ rfl wo.heap.size 5 i0 Tryd.underlying28 Tryd.underlying9 HI.out.1 HI.out.2.1 HI.out.2.2.1 HI.out.2.2.2 (.slice (some ⟨g1, 0, none⟩) (Pk.length + 1) c9) (Pk.length + 1) (u8s Pk ++ [.int .u8 s.size]) rfl hown1 s rfl (by unfold maxLen; omega) (by omega) (by have := HSZ.out; have := hgrow1.size; simp at this; omega) ?_; intro v2 w2 hown2 hgrow2 hnil2)
        have R1 : BRel wo w1 (.slice (some ⟨g1, 0, Option.none⟩) (Pk.length + 1) c9) (Pk ++ [UInt8.ofNat s.size]) := R.out.more (m := [UInt8.ofNat s.size]) (by rw [u8s_size h255]; exact hown1) (by simp) (Gw.alloc wr _) hgrow1
        have R2 : BRel wo w2 v2 ((Pk ++ [UInt8.ofNat s.size]) ++ s.data.toList) := R1.more (m := s.data.toList) (by rw [u8s_app, u8s_size h255, ← strCells_eq]; exact hown2) (by rw [List.length_append, Array.length_toList]; rfl) (Gw.refl w1) hgrow2
        obtain ⟨A3, c3, rfl⟩ := R2.shape
        rw [← HQ.out] at R2
        have HQL := Lib.hid (congrArg List.length HQ.out)
        clear hown1 hown2 hgrow1 hgrow2 hat1 hnil2 R1 hlt1
        refine ⟨⟨k + 1, A3, c3, by omega, by go_num, by rw [HQ.out], R2⟩, ?_⟩
        simp [intOf]
        omega
      · obtain rfl : k = N.length := by omega
        have d0' := R.out.gw.cell d0
        have HSZ := Lib.hid R.out.gw.size
        have hP := preN_len (fun j s _ h => HE2.out s (List.mem_of_getElem? h)) N.length
        have hP2 : (preN N N.length).length ≤ 3000 := by omega
        have HPE : Hid (preN N N.length = [88, 82, UInt8.ofNat N.length] ++ N.flatMap encS) := by unfold preN; rw [List.take_length]; rfl
        generalize preN N N.length = Pk at *
        clear hP
        go_upto_region 12 with (at_builtin; refine wpList_append_lies _ rfl _ _ _ rfl wo.heap.size 5 i0 _ 1 1 Tryd.underlying28 HI.out.1 HI.out.2.1 HI.out.2.2.1 HI.out.2.2.2 rfl (by omega) (.slice A2 Pk.length c2) Pk.length (u8s Pk) rfl (R.out.own.alloc _) ⟨wr.heap.size, 0, none⟩ 1 1 [.int .u8 L.length] rfl rfl (World.news_of_block (cs := #[.int .u8 L.length]) (t := 5) (fr := (0, 0)) (heap_alloc_new wr _)) (by simp [Value.oneCell']) (by omega) (by unfold maxLen; omega) (by omega) (by have := HSZ.out; simp; omega) (wr.heap.size + 1) (by simp) ?_; intro g1 c9 w1 hown1 hgrow1 hat1 hlt1)
        have R1 : BRel wo w1 (.slice (some ⟨g1, 0, Option.none⟩) (Pk.length + 1) c9) (Pk ++ [UInt8.ofNat L.length]) := R.out.more (m := [UInt8.ofNat L.length]) (by rw [u8s_one (by omega), u8_wrap (by omega) (by omega)]; exact hown1) (by simp) (Gw.alloc wr _) hgrow1
        have hP0 : Pk ++ [UInt8.ofNat L.length] = preI L N 0 := by rw [HPE.out]; simp [preI]
        rw [hP0] at R1
        have hP0l : Pk.length + 1 = (preI L N 0).length := by rw [← hP0, List.length_append]; rfl
        have hPI : (preI L N 0).length ≤ 3001 := by omega
        have d0'' := R1.gw.cell d0
        obtain ⟨wp, hwp⟩ : ∃ x, x = w1 := ⟨_, rfl⟩
        subst hwp
        rw [hP0l] at R1 ⊢
        clear hown1 hgrow1 hat1 hlt1 hP0 hP0l HPE hP2 R HSZ
        generalize hq0 : preI L N 0 = P0 at *
        go_wp2_with fail
        go_loopw [5, 47] (fun v i wr => ∃ (k : Nat) (A2 : Option Addr) (c2 : Nat), k ≤ L.length ∧ i = .int .i64 k ∧ v = .slice A2 (preI L N k).length c2 ∧ Hid (BRel wo wr (.slice A2 (preI L N k).length c2) (preI L N k))) (fun _ i _ => L.length - (intOf i).toNat)
        case atStart => exact ⟨0, _, _, by omega, rfl, by rw [hq0], by rw [hq0]; exact R1⟩
        case round =>
          obtain ⟨k, A2, c2, hk, rfl, rfl, R⟩ := hrel
          by_cases hlt : k < L.length
          · obtain ⟨x, hx⟩ : ∃ x, L[k]? = some x := ⟨_, List.getElem?_eq_getElem hlt⟩
            obtain ⟨g, off, rfl, hg, hc0, hc1⟩ := (HK1.out.gw R.out.gw).inst k x hx
            have hok := HOK.out x (List.mem_of_getElem? hx)
            have HQ := Lib.hid (preI_succ (N := N) hx)
            have hPl := preI_len (L := L) (N := N) k
            rw [hq0] at hPl
            have hP : (preI L N k).length ≤ 4000 := by omega
            obtain ⟨b1, b2, b3, b4⟩ := okI_bd hok
            clear hPl hx hok
            generalize preI L N k = Pk at *
            have HSZ := Lib.hid R.out.gw.size
            go_upto_region 15 with fail
            go_wp2_with (at_builtin; refine wpList_append_lies _ rfl _ _ _ rfl wo.heap.size 5 i0 _ 1 1 Tryd.underlying28 HI.out.1 HI.out.2.1 HI.out.2.2.1 HI.out.2.2.2 rfl (by omega) (.slice A2 Pk.length c2) Pk.length (u8s Pk) rfl ((R.out.own.alloc _).alloc _) ⟨wr.heap.size + 1, 0, none⟩ 3 3 [.int .u8 x.1, .int .u8 (x.2 / 256), .int .u8 (x.2 % 256)] rfl rfl (World.news_of_block (cs := #[.int .u8 x.1, .int .u8 (x.2 / 256), .int .u8 (x.2 % 256)]) (t := 5) (fr := (0, 0)) (heap_two wr _ _)) (by simp [Value.oneCell']) (by omega) (by unfold maxLen; omega) (by omega) (by have := HSZ.out; simp; omega) (wr.heap.size + 2) (by simp) ?_; intro g1 c9 w1 hown1 hgrow1 hat1 hlt1)
            have R1 : BRel wo w1 (.slice (some ⟨g1, 0, Option.none⟩) (Pk.length + 3) c9) (Pk ++ encI x) := R.out.more (m := encI x) (by rw [u8s_enc2 b1 b2 b3 b4]; exact hown1) rfl ((Gw.alloc wr _).trans (Gw.alloc _ _)) hgrow1
            rw [← HQ.out] at R1
            have HLEN := Lib.hid (show Pk.length + 3 = (preI L N (k + 1)).length by rw [HQ.out, List.length_append]; rfl)
            clear hown1 hgrow1 hat1 hlt1
            refine ⟨⟨k + 1, some ⟨g1, 0, Option.none⟩, c9, by omega, by go_num, by rw [HLEN.out], by have := R1; rw [HLEN.out] at this; exact this⟩, ?_⟩
            simp [intOf]
            omega
          · obtain rfl : k = L.length := by omega
            have hpl : preI L N L.length = encP L N := by
              unfold preI encP
              rw [List.take_length]
            have HPL := Lib.hid hpl
            clear hpl
            go_wp2_with fail
            go_ret2
            refine ⟨.slice A2 (preI L N L.length).length c2, by rw [HZ.out]; rfl, ?_⟩
            rw [if_pos HZ.out, ← HPL.out]
            exact ⟨R.out.own.mono HG1.out.size, HG1.out.trans R.out.gw⟩
  · obtain ⟨q, hq⟩ : ∃ q, errP L N = q := ⟨_, rfl⟩
    have hne : (q == 0) = false := by rw [beq_eq_false_iff_ne, ← hq]; exact h0
    rw [hq] at RF h0
    have HQ := Lib.hid hq
    clear hq
    go_enter Tryd.func12, Tryd.ntmps12
    go_wp2_with (go_at_call 20; with_reducible refine RF.mono ?_; rintro e w1 ⟨rfl, G1⟩)
    go_ret2
    exact post_err HQ.out h0 (HG.out.trans G1)
end Go.Proofs.YtcecmkelefhaaaaDoor
