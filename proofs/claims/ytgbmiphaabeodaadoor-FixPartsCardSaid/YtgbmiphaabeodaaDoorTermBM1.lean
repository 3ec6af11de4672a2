/-
  Build of the law's package: cases of its round.
-/
import Derived.Test.YtgbmiphaabeodaaDoorTermB
namespace Go.Proofs.YtgbmiphaabeodaaDoor
open Go.ChangeShapes Go.WideShapes Go.ChangeAt Go.RowKit
set_option linter.unusedVariables false
attribute [local go_sem ↓] Go.wp_at_zero Go.wp_at_succ

structure KP (ns : List Nd) (wd v x : Int) (ns' : List Nd) : Prop where
  t : isT ns' x
  w : wdt ns' x = wd
  v : ∀ env, V ns' env x = low wd v
  n : NV ns ns'
theorem kp_of {W0 w w' : World} {ab : Nat} {ns ns' : List Nd} {Q : Nat → Prop} {wd v x : Int} (N : Nxt W0 w ab ns Q w' ns') (h : nd ns' x = some ⟨1, wd, low wd v, 0, 0, 0⟩ ∧ NV ns ns') : KP ns wd v x ns' := by
  obtain ⟨foot, a, _⟩ := N.cur
  have hp := nd_pos h.1
  exact ⟨⟨hp.1, hp.2.1⟩, wdt_of h.1, fun env => by rw [V_of a.wf env h.1]; rfl, h.2⟩
theorem l_constK (W0 w : World) (ab : Nat) (ns : List Nd) (Q : Nat → Prop) (wd v : Int) (C : Cur W0 w ab ns Q) (hl : ns.length < 65536) (hw : mayw wd) (v0 : 0 ≤ v) (v1 : v ≤ 65535) :
    Calls Tryd.prog 17 #[ptr ab, .int .i64 wd, .int .u16 v] w (More W0 w ab ns Q (fun ns' x => KP ns wd v x ns')) :=
  (l_const W0 w ab ns Q wd v C hl hw v0 v1).mono (fun e w' h => by obtain ⟨x, ns', h1, h2, h3⟩ := h; exact ⟨x, ns', h1, h2, kp_of h2 h3⟩)

set_option maxHeartbeats 8000000 in
set_option maxRecDepth 1000000 in
theorem bconst (W0 wr : World) (ab vb k cap lcap g off : Nat) (LA : Option Addr) (rs : List Rw) (r : Rw) (ns : List Nd) (ms : List Md) (vs : List Int) (u : Nat → Value) (Q0 : Exit → Act → World → Prop)
    (hrel : BRel W0 wr ab vb k (.slice LA ms.length lcap) ns ms vs) (hR : RowsAt W0 (some ⟨g, off, none⟩) rs) (hgW : g < W0.heap.size) (hr : rs[k]? = some r) (hn : rs.length ≤ 200) (hcap : rs.length ≤ cap) (hcap2 : cap ≤ 9223372036854775807) (i0 i1 i2 : Nat) (hi0 : i0 < ms.length) (hi1 : i1 < ms.length) (hi2 : i2 < ms.length) (e0 : r.a.tmod (ms.length : Int) = (i0 : Int)) (e1 : r.b.tmod (ms.length : Int) = (i1 : Int)) (e2 : r.c.tmod (ms.length : Int) = (i2 : Int)) (ho : r.op = 1) (hw : mayw r.w) :
    Code.wp Tryd.prog bbody (Exit.then (fun a' w'' => WI W0 ab vb cap (some ⟨g, off, none⟩) rs a' w'' ∧ Wmu rs.length a' < Wmu rs.length ⟨#[ptr ab, .slice (some ⟨g, off, none⟩) rs.length cap, u 2, u 3, u 4, u 5, .slice LA ms.length lcap, ptr vb, .int .i64 k, u 9, u 10, u 11, u 12, u 13, u 14, u 15, u 16, u 17, u 18, u 19, u 20, u 21, u 22, u 23, u 24, u 25, u 26, u 27, u 28, u 29, u 30, u 31, u 32, u 33, u 34, u 35, u 36, u 37, u 38, u 39, u 40, u 41, u 42, u 43, u 44, u 45, u 46, u 47, u 48, u 49, u 50, u 51, u 52, u 53, u 54, u 55, u 56, u 57, u 58, u 59, u 60, u 61, u 62, u 63, u 64, u 65, u 66, u 67, u 68, u 69, u 70, u 71, u 72, u 73, u 74, u 75, u 76, u 77, u 78, u 79, u 80, u 81, u 82, u 83, u 84, u 85, u 86, u 87, u 88, u 89, u 90, u 91, u 92, u 93, u 94, u 95, u 96, u 97, u 98, u 99, u 100, u 101, u 102, u 103, u 104, u 105, u 106, u 107, u 108, u 109, u 110, u 111, u 112, u 113, u 114, u 115, u 116, u 117, u 118, u 119, u 120, u 121, u 122, u 123, u 124, u 125, u 126, u 127, u 128, u 129, u 130, u 131, u 132, u 133, u 134, u 135, u 136, u 137, u 138, u 139, u 140, u 141, u 142, u 143, u 144, u 145, u 146, u 147, u 148, u 149, u 150, u 151, u 152, u 153, u 154, u 155, u 156, u 157, u 158, u 159, u 160, u 161, u 162, u 163, u 164, u 165, u 166, u 167, u 168, u 169, u 170, u 171, u 172, u 173, u 174, u 175, u 176, u 177, u 178, u 179, u 180, u 181, u 182, u 183, u 184, u 185, u 186, u 187, u 188, u 189, u 190, u 191, u 192, u 193, u 194, u 195, u 196, u 197, u 198, u 199, u 200, u 201, u 202, u 203, u 204, u 205, u 206, u 207, u 208, u 209, u 210, u 211, u 212, u 213, u 214, u 215, u 216, u 217, u 218, u 219, u 220, u 221, u 222, u 223, u 224, u 225, u 226, u 227, u 228, u 229, u 230, u 231, u 232, u 233, u 234, u 235, u 236, u 237, u 238, u 239, u 240, u 241, u 242, u 243, u 244, u 245, u 246, u 247, u 248, u 249, u 250, u 251, u 252, u 253, u 254, u 255, u 256, u 257, u 258, u 259, u 260, u 261, u 262, u 263, u 264, u 265, u 266, u 267, u 268, u 269, u 270, u 271, u 272, u 273, u 274, u 275, u 276, u 277, u 278, u 279, u 280, u 281, u 282, u 283, u 284, u 285, u 286, u 287, u 288, u 289, u 290, u 291, u 292, u 293, u 294, u 295, u 296, u 297, u 298, u 299, u 300, u 301, u 302, u 303, u 304, u 305, u 306, u 307, u 308, u 309, u 310, u 311, u 312, u 313, u 314, u 315, u 316, u 317, u 318, u 319, u 320, u 321, u 322, u 323, u 324], []⟩) Q0) ⟨#[ptr ab, .slice (some ⟨g, off, none⟩) rs.length cap, u 2, u 3, u 4, u 5, .slice LA ms.length lcap, ptr vb, .int .i64 k, u 9, u 10, u 11, u 12, u 13, u 14, u 15, u 16, u 17, u 18, u 19, u 20, u 21, u 22, u 23, u 24, u 25, u 26, u 27, u 28, u 29, u 30, u 31, u 32, u 33, u 34, u 35, u 36, u 37, u 38, u 39, u 40, u 41, u 42, u 43, u 44, u 45, u 46, u 47, u 48, u 49, u 50, u 51, u 52, u 53, u 54, u 55, u 56, u 57, u 58, u 59, u 60, u 61, u 62, u 63, u 64, u 65, u 66, u 67, u 68, u 69, u 70, u 71, u 72, u 73, u 74, u 75, u 76, u 77, u 78, u 79, u 80, u 81, u 82, u 83, u 84, u 85, u 86, u 87, u 88, u 89, u 90, u 91, u 92, u 93, u 94, u 95, u 96, u 97, u 98, u 99, u 100, u 101, u 102, u 103, u 104, u 105, u 106, u 107, u 108, u 109, u 110, u 111, u 112, u 113, u 114, u 115, u 116, u 117, u 118, u 119, u 120, u 121, u 122, u 123, u 124, u 125, u 126, u 127, u 128, u 129, u 130, u 131, u 132, u 133, u 134, u 135, u 136, u 137, u 138, u 139, u 140, u 141, u 142, u 143, u 144, u 145, u 146, u 147, u 148, u 149, u 150, u 151, u 152, u 153, u 154, u 155, u 156, u 157, u 158, u 159, u 160, u 161, u 162, u 163, u 164, u 165, u 166, u 167, u 168, u 169, u 170, u 171, u 172, u 173, u 174, u 175, u 176, u 177, u 178, u 179, u 180, u 181, u 182, u 183, u 184, u 185, u 186, u 187, u 188, u 189, u 190, u 191, u 192, u 193, u 194, u 195, u 196, u 197, u 198, u 199, u 200, u 201, u 202, u 203, u 204, u 205, u 206, u 207, u 208, u 209, u 210, u 211, u 212, u 213, u 214, u 215, u 216, u 217, u 218, u 219, u 220, u 221, u 222, u 223, u 224, u 225, u 226, u 227, u 228, u 229, u 230, u 231, u 232, u 233, u 234, u 235, u 236, u 237, u 238, u 239, u 240, u 241, u 242, u 243, u 244, u 245, u 246, u 247, u 248, u 249, u 250, u 251, u 252, u 253, u 254, u 255, u 256, u 257, u 258, u 259, u 260, u 261, u 262, u 263, u 264, u 265, u 266, u 267, u 268, u 269, u 270, u 271, u 272, u 273, u 274, u 275, u 276, u 277, u 278, u 279, u 280, u 281, u 282, u 283, u 284, u 285, u 286, u 287, u 288, u 289, u 290, u 291, u 292, u 293, u 294, u 295, u 296, u 297, u 298, u 299, u 300, u 301, u 302, u 303, u 304, u 305, u 306, u 307, u 308, u 309, u 310, u 311, u 312, u 313, u 314, u 315, u 316, u 317, u 318, u 319, u 320, u 321, u 322, u 323, u 324], []⟩ wr := by
  have hlt : k < rs.length := (List.getElem?_eq_some_iff.1 hr).1
  have hgl : g < wr.heap.size := Nat.lt_of_lt_of_le hgW hrel.cur.below0.size
  have hvbl : vb < wr.heap.size := hrel.hv.lt
  have hok := hR.ok r (List.mem_of_getElem? hr)
  have key : ∀ j, j < 6 → wr.cell? ⟨g, off + k * 6 + j, none⟩ = r.v[j]? := fun j hj => by
    obtain ⟨g', off', hA, _, hc⟩ := hR.get k r hr
    injection hA with hA
    injection hA with h1 h2
    subst h1; subst h2
    exact (hrel.cur.below0.cell (p := ⟨g, off + k * 6 + j, none⟩) hgW).trans (hc j hj)
  have r0 : wr.cell? ⟨g, off + k * 6, none⟩ = some (.int .i64 r.op) := key 0 (by decide)
  have r1 : wr.cell? ⟨g, off + k * 6 + 1, none⟩ = some (.int .i64 r.w) := key 1 (by decide)
  have r2 : wr.cell? ⟨g, off + k * 6 + 2, none⟩ = some (.int .u16 r.val) := key 2 (by decide)
  have r3 : wr.cell? ⟨g, off + k * 6 + 3, none⟩ = some (.int .u8 r.a) := key 3 (by decide)
  have r4 : wr.cell? ⟨g, off + k * 6 + 4, none⟩ = some (.int .u8 r.b) := key 4 (by decide)
  have r5 : wr.cell? ⟨g, off + k * 6 + 5, none⟩ = some (.int .u8 r.c) := key 5 (by decide)
  have hml := hrel.ml
  have zm := zero_made
  have R := Lib.hid hrel
  have HOK := Lib.hid hok
  clear hrel hR hr key hok
  obtain ⟨m0, hm0, k0⟩ := R.out.mok.at_ (show i0 < ms.length by omega)
  obtain ⟨m1_, hm1, k1⟩ := R.out.mok.at_ (show i1 < ms.length by omega)
  obtain ⟨m2, hm2, k2⟩ := R.out.mok.at_ (show i2 < ms.length by omega)
  obtain ⟨lg, lc, hLA, hlg, hlb, hlc1, hlc2, hc0⟩ := row_md R.out.row hm0
  injection hLA with hLA1 hLA2 hLA3
  subst hLA1; subst hLA3
  obtain ⟨lg', lc', hLB, _, _, _, _, hc1⟩ := row_md R.out.row hm1
  injection hLB with hLB1 hLB2 hLB3
  injection hLB1 with hLB1
  injection hLB1 with hLB1 _
  subst hLB1; subst hLB3
  obtain ⟨lg'', lc'', hLB, _, _, _, _, hc2⟩ := row_md R.out.row hm2
  injection hLB with hLB1 hLB2 hLB3
  injection hLB1 with hLB1
  injection hLB1 with hLB1 _
  subst hLB1; subst hLB3
  have a0 : wr.cell? ⟨lg, i0 * 11, none⟩ = some (.int .i64 m0.t) := hc0 0 (by decide)
  have a7 : wr.cell? ⟨lg, i0 * 11 + 7, none⟩ = some (.int .i64 m0.w) := hc0 7 (by decide)
  have b0 : wr.cell? ⟨lg, i1 * 11, none⟩ = some (.int .i64 m1_.t) := hc1 0 (by decide)
  have b7 : wr.cell? ⟨lg, i1 * 11 + 7, none⟩ = some (.int .i64 m1_.w) := hc1 7 (by decide)
  have d0 : wr.cell? ⟨lg, i2 * 11, none⟩ = some (.int .i64 m2.t) := hc2 0 (by decide)
  have d7 : wr.cell? ⟨lg, i2 * 11 + 7, none⟩ = some (.int .i64 m2.w) := hc2 7 (by decide)
  unfold maxLen at hlc2
  have HM0 := Lib.hid hm0
  have HM1 := Lib.hid hm1
  have HM2 := Lib.hid hm2
  have K0 := Lib.hid k0
  have K1 := Lib.hid k1
  have K2 := Lib.hid k2
  have hvA : IntKind.i64.wrap r.a = r.a := by have := HOK.out.a; exact IntWalk.i64_in _ (by omega)
  have hvB : IntKind.i64.wrap r.b = r.b := by have := HOK.out.b; exact IntWalk.i64_in _ (by omega)
  have hvC : IntKind.i64.wrap r.c = r.c := by have := HOK.out.c; exact IntWalk.i64_in _ (by omega)
  obtain ⟨oa0, oa1⟩ := HOK.out.a
  obtain ⟨ob0, ob1⟩ := HOK.out.b
  obtain ⟨oc0, oc1⟩ := HOK.out.c
  have g00 : (0 : Int) ≤ (i0 : Int) := by omega
  have g01 : (i0 : Int) < (ms.length : Int) := by omega
  have g10 : (0 : Int) ≤ (i1 : Int) := by omega
  have g11 : (i1 : Int) < (ms.length : Int) := by omega
  have g20 : (0 : Int) ≤ (i2 : Int) := by omega
  have g21 : (i2 : Int) < (ms.length : Int) := by omega
  have hml1 : (1 : Int) ≤ (ms.length : Int) := by omega
  have hz1 : ((ms.length : Int) == 0) = false := by simp; intro e; subst e; simp at hi0
  have hz2 : ¬ ms = [] := fun e => by subst e; simp at hi0
  have hz3 : (decide ((ms.length : Int) = 0)) = false := by simpa using hz2
  clear hm0 hm1 hm2 k0 k1 k2 hc0 hc1 hc2 hLA2 hLB2
  have t1 : (r.op == 1) = true := by simpa using ho
  have t1' : (r.op != 1) = false := by simpa using ho
  have HW := Lib.hid hw
  clear hw
  have HO := Lib.hid ho
  clear ho
  have C2 : Hid (Cur W0 ((wr.alloc (.cells #[.int .i64 r.op, .int .i64 r.w, .int .u16 r.val, .int .u8 r.a, .int .u8 r.b, .int .u8 r.c] 35)).alloc (.cells #[.int .i64 0, .int .i64 r.op, .int .i64 r.w, .int .u16 r.val, .int .u8 r.a, .int .u8 r.b, .int .u8 r.c, .int .i64 0, .int .i64 i0, .int .i64 i1, .int .i64 i2] 38)) ab ns (Qm vb wr.heap.size (.slice (some ⟨lg, 0, none⟩) ms.length lcap))) := ((R.out.cur.mine _).mine _).less (fun b hb => by
    rcases hb with hb | hb | hb
    · exact .inl (.inl hb)
    · exact .inl (.inr hb)
    · exact .inr (by simpa using hb))
  have HRB2 : Hid (Has ((wr.alloc (.cells #[.int .i64 r.op, .int .i64 r.w, .int .u16 r.val, .int .u8 r.a, .int .u8 r.b, .int .u8 r.c] 35)).alloc (.cells #[.int .i64 0, .int .i64 r.op, .int .i64 r.w, .int .u16 r.val, .int .u8 r.a, .int .u8 r.b, .int .u8 r.c, .int .i64 0, .int .i64 i0, .int .i64 i1, .int .i64 i2] 38)) wr.heap.size 35 #[.int .i64 r.op, .int .i64 r.w, .int .u16 r.val, .int .u8 r.a, .int .u8 r.b, .int .u8 r.c]) := (Has.new wr 35 #[.int .i64 r.op, .int .i64 r.w, .int .u16 r.val, .int .u8 r.a, .int .u8 r.b, .int .u8 r.c]).same (alloc_other (by simp))
  have HMB2 : Hid (Has ((wr.alloc (.cells #[.int .i64 r.op, .int .i64 r.w, .int .u16 r.val, .int .u8 r.a, .int .u8 r.b, .int .u8 r.c] 35)).alloc (.cells #[.int .i64 0, .int .i64 r.op, .int .i64 r.w, .int .u16 r.val, .int .u8 r.a, .int .u8 r.b, .int .u8 r.c, .int .i64 0, .int .i64 i0, .int .i64 i1, .int .i64 i2] 38)) (wr.heap.size + 1) 38 #[.int .i64 0, .int .i64 r.op, .int .i64 r.w, .int .u16 r.val, .int .u8 r.a, .int .u8 r.b, .int .u8 r.c, .int .i64 0, .int .i64 i0, .int .i64 i1, .int .i64 i2]) := by
    have := Has.new (wr.alloc (.cells #[.int .i64 r.op, .int .i64 r.w, .int .u16 r.val, .int .u8 r.a, .int .u8 r.b, .int .u8 r.c] 35)) 38 #[.int .i64 0, .int .i64 r.op, .int .i64 r.w, .int .u16 r.val, .int .u8 r.a, .int .u8 r.b, .int .u8 r.c, .int .i64 0, .int .i64 i0, .int .i64 i1, .int .i64 i2]
    rw [show (wr.alloc (.cells #[.int .i64 r.op, .int .i64 r.w, .int .u16 r.val, .int .u8 r.a, .int .u8 r.b, .int .u8 r.c] 35)).heap.size = wr.heap.size + 1 by simp] at this
    exact this
  have HVB2 : Hid (Has ((wr.alloc (.cells #[.int .i64 r.op, .int .i64 r.w, .int .u16 r.val, .int .u8 r.a, .int .u8 r.b, .int .u8 r.c] 35)).alloc (.cells #[.int .i64 0, .int .i64 r.op, .int .i64 r.w, .int .u16 r.val, .int .u8 r.a, .int .u8 r.b, .int .u8 r.c, .int .i64 0, .int .i64 i0, .int .i64 i1, .int .i64 i2] 38)) vb 62 (va vs)) := (R.out.hv.same (alloc_other R.out.hv.lt)).same (alloc_other (by have := R.out.hv.lt; simp; omega))
  have HROW2 : Hid (((wr.alloc (.cells #[.int .i64 r.op, .int .i64 r.w, .int .u16 r.val, .int .u8 r.a, .int .u8 r.b, .int .u8 r.c] 35)).alloc (.cells #[.int .i64 0, .int .i64 r.op, .int .i64 r.w, .int .u16 r.val, .int .u8 r.a, .int .u8 r.b, .int .u8 r.c, .int .i64 0, .int .i64 i0, .int .i64 i1, .int .i64 i2] 38)).ownsRow W0.heap.size 38 11 (.slice (some ⟨lg, 0, none⟩) ms.length lcap) ms.length (mdCells ms)) := row_same R.out.row (fun b hb => by
    obtain ⟨cur, hc⟩ := row_block R.out.row hb
    exact (alloc_other (by have := hc.lt; simp; omega)).trans (alloc_other hc.lt))
  have hne1 : vb ≠ wr.heap.size := by omega
  have hne2 : vb ≠ wr.heap.size + 1 := by omega
  conv => arg 2; whnf
  go_wp2_with fail
  go_region_held3 (fun w' => w'.cell? ⟨wr.heap.size, 3, none⟩ = some (.int .u8 r.a) ∧ w'.cell? ⟨wr.heap.size, 4, none⟩ = some (.int .u8 r.b) ∧ w'.cell? ⟨wr.heap.size, 5, none⟩ = some (.int .u8 r.c)) (go_keep) (fail)
  go_wp2_with fail
  go_quiet (fail)
  go_wp2_with fail
  go_quiet (fail)
  go_wp2_with fail
  refine (l_constK W0 _ ab ns (Qm vb wr.heap.size (.slice (some ⟨lg, 0, none⟩) ms.length lcap)) r.w r.val (by exact C2.out.alike rfl rfl rfl rfl) (by have := R.out.nl; omega) HW.out HOK.out.val.1 HOK.out.val.2).mono ?_
  rintro e w3 ⟨x, ns3, rfl, N3, hx3⟩
  have C3 := Lib.hid N3.cur
  have HTW : Hid (wdt ns3 x = r.w) := hx3.w
  have HMOK := Lib.hid (R.out.mok.ext N3)
  have HVOK := Lib.hid (R.out.vok.ext N3.ext hx3.n)
  have HNL : Hid (ns3.length ≤ k + 1) := by have := N3.len; have := R.out.nl; show ns3.length ≤ k + 1; omega
  have HMD : Hid (MdOk ns3 ms ms.length ⟨x, r, r.w, i0, i1, i2⟩) := by
    refine ⟨hx3.t, HTW.out, by show 1 ≤ r.op; have := HO.out; omega, by show r.op ≤ 18; have := HO.out; omega, HOK.out, fun _ => ⟨hi0, hi1, hi2⟩, fun env => ?_⟩
    show V ns3 env x = _
    rw [hx3.v]
    unfold lv
    simp only [HO.out]
    rfl
  have HMB3 : Hid (Has w3 (wr.heap.size + 1) 38 #[.int .i64 0, .int .i64 r.op, .int .i64 r.w, .int .u16 r.val, .int .u8 r.a, .int .u8 r.b, .int .u8 r.c, .int .i64 0, .int .i64 i0, .int .i64 i1, .int .i64 i2]) := HMB2.out.same (N3.q _ (.inr (.inr rfl)))
  have HRB3 : Hid (Has w3 wr.heap.size 35 #[.int .i64 r.op, .int .i64 r.w, .int .u16 r.val, .int .u8 r.a, .int .u8 r.b, .int .u8 r.c]) := HRB2.out.same (N3.q _ (.inr (.inl rfl)))
  have HVB3 : Hid (Has w3 vb 62 (va vs)) := HVB2.out.same (N3.q _ (.inl (.inl rfl)))
  have HROW3 : Hid (w3.ownsRow W0.heap.size 38 11 (.slice (some ⟨lg, 0, none⟩) ms.length lcap) ms.length (mdCells ms)) := row_same HROW2.out (fun b hb => N3.q _ (.inl (.inr hb)))
  have z0 : w3.cell? ⟨wr.heap.size + 1, 0, none⟩ = some (.int .i64 0) := HMB3.out.cell 0
  have z1 : w3.cell? ⟨wr.heap.size + 1, 1, none⟩ = some (.int .i64 r.op) := HMB3.out.cell 1
  have z2 : w3.cell? ⟨wr.heap.size + 1, 2, none⟩ = some (.int .i64 r.w) := HMB3.out.cell 2
  have z3 : w3.cell? ⟨wr.heap.size + 1, 3, none⟩ = some (.int .u16 r.val) := HMB3.out.cell 3
  have z4 : w3.cell? ⟨wr.heap.size + 1, 4, none⟩ = some (.int .u8 r.a) := HMB3.out.cell 4
  have z5 : w3.cell? ⟨wr.heap.size + 1, 5, none⟩ = some (.int .u8 r.b) := HMB3.out.cell 5
  have z6 : w3.cell? ⟨wr.heap.size + 1, 6, none⟩ = some (.int .u8 r.c) := HMB3.out.cell 6
  have z7 : w3.cell? ⟨wr.heap.size + 1, 7, none⟩ = some (.int .i64 0) := HMB3.out.cell 7
  have z8 : w3.cell? ⟨wr.heap.size + 1, 8, none⟩ = some (.int .i64 i0) := HMB3.out.cell 8
  have z9 : w3.cell? ⟨wr.heap.size + 1, 9, none⟩ = some (.int .i64 i1) := HMB3.out.cell 9
  have z10 : w3.cell? ⟨wr.heap.size + 1, 10, none⟩ = some (.int .i64 i2) := HMB3.out.cell 10
  have zfr : ∀ i, w3.frozen? ⟨wr.heap.size + 1, i, none⟩ = false := HMB3.out.free
  have rr0 : w3.cell? ⟨wr.heap.size, 0, none⟩ = some (.int .i64 r.op) := HRB3.out.cell 0
  have rr1 : w3.cell? ⟨wr.heap.size, 1, none⟩ = some (.int .i64 r.w) := HRB3.out.cell 1
  have rr2 : w3.cell? ⟨wr.heap.size, 2, none⟩ = some (.int .u16 r.val) := HRB3.out.cell 2
  clear N3 hx3
  have C4 : Hid (Cur W0 ((w3.setCell ⟨wr.heap.size + 1, 0, none⟩ (.int .i64 x)).setCell ⟨wr.heap.size + 1, 7, none⟩ (.int .i64 r.w)) ab ns3 (Qm vb wr.heap.size (.slice (some ⟨lg, 0, none⟩) ms.length lcap))) := ((C3.out.store (p := ⟨wr.heap.size + 1, 0, none⟩) (.inr (.inr rfl)) (by have := R.out.cur.below0.size; show W0.heap.size ≤ wr.heap.size + 1; omega) (.int .i64 x)).store (p := ⟨wr.heap.size + 1, 7, none⟩) (.inr (.inr rfl)) (by have := R.out.cur.below0.size; show W0.heap.size ≤ wr.heap.size + 1; omega) (.int .i64 r.w))
  have HMB4 : Hid (Has ((w3.setCell ⟨wr.heap.size + 1, 0, none⟩ (.int .i64 x)).setCell ⟨wr.heap.size + 1, 7, none⟩ (.int .i64 r.w)) (wr.heap.size + 1) 38 #[.int .i64 x, .int .i64 r.op, .int .i64 r.w, .int .u16 r.val, .int .u8 r.a, .int .u8 r.b, .int .u8 r.c, .int .i64 r.w, .int .i64 i0, .int .i64 i1, .int .i64 i2]) := ((HMB3.out.put 0 (.int .i64 x)).put 7 (.int .i64 r.w))
  have HVB4 : Hid (Has ((w3.setCell ⟨wr.heap.size + 1, 0, none⟩ (.int .i64 x)).setCell ⟨wr.heap.size + 1, 7, none⟩ (.int .i64 r.w)) vb 62 (va vs)) := HVB3.out.same ((set_other (p := ⟨wr.heap.size + 1, 7, none⟩) hne2).trans (set_other (p := ⟨wr.heap.size + 1, 0, none⟩) hne2))
  have HROW4 : Hid (((w3.setCell ⟨wr.heap.size + 1, 0, none⟩ (.int .i64 x)).setCell ⟨wr.heap.size + 1, 7, none⟩ (.int .i64 r.w)).ownsRow W0.heap.size 38 11 (.slice (some ⟨lg, 0, none⟩) ms.length lcap) ms.length (mdCells ms)) := row_same HROW3.out (fun b hb => by
    have hb2 : lg = b := by simpa [Value.ownBlock] using hb
    have hne : b ≠ wr.heap.size + 1 := by omega
    exact ((set_other (p := ⟨wr.heap.size + 1, 7, none⟩) hne).trans (set_other (p := ⟨wr.heap.size + 1, 0, none⟩) hne)))
  have HWD := fun (W : World) (C : Cur W0 W ab ns3 (Qm vb wr.heap.size (.slice (some ⟨lg, 0, none⟩) ms.length lcap))) => Lib.hid (r_width C x)
  rw [HTW.out] at HWD
  go_wp2_with (go_at_call 20; refine (rmay_yes _ _ HW.out).mono ?_; rintro e w9 ⟨rfl, rfl⟩)
  have q0 : ((w3.setCell ⟨wr.heap.size + 1, 0, none⟩ (.int .i64 x)).setCell ⟨wr.heap.size + 1, 7, none⟩ (.int .i64 r.w)).cell? ⟨wr.heap.size + 1, 0, none⟩ = some (.int .i64 x) := HMB4.out.cell 0
  have q7 : ((w3.setCell ⟨wr.heap.size + 1, 0, none⟩ (.int .i64 x)).setCell ⟨wr.heap.size + 1, 7, none⟩ (.int .i64 r.w)).cell? ⟨wr.heap.size + 1, 7, none⟩ = some (.int .i64 r.w) := HMB4.out.cell 7
  go_region_held3 (fun w' => w'.cell? ⟨wr.heap.size + 1, 0, none⟩ = some (.int .i64 x) ∧ w'.cell? ⟨wr.heap.size + 1, 7, none⟩ = some (.int .i64 r.w)) (go_keep) (first | (go_at_call 14; refine (HWD _ (by exact C4.out.alike rfl rfl rfl rfl)).out.mono ?_; rintro e w5 ⟨rfl, hb5⟩; have C5 := Lib.hid (Cur.below (by exact C4.out.alike rfl rfl rfl rfl) hb5); have HMB5 : Hid (Has w5 (wr.heap.size + 1) 38 #[.int .i64 x, .int .i64 r.op, .int .i64 r.w, .int .u16 r.val, .int .u8 r.a, .int .u8 r.b, .int .u8 r.c, .int .i64 r.w, .int .i64 i0, .int .i64 i1, .int .i64 i2]) := (HMB4.out.same (by exact hb5.block _ HMB4.out.lt)); have HVB5 : Hid (Has w5 vb 62 (va vs)) := (HVB4.out.same (by exact hb5.block _ HVB4.out.lt)); have HROW5 : Hid (w5.ownsRow W0.heap.size 38 11 (.slice (some ⟨lg, 0, none⟩) ms.length lcap) ms.length (mdCells ms)) := (row_same HROW4.out (fun b hb => by (obtain ⟨cur, hc⟩ := row_block HROW4.out hb; exact hb5.block _ hc.lt))); have y0 : w5.cell? ⟨wr.heap.size + 1, 0, none⟩ = some (.int .i64 x) := HMB5.out.cell 0; have y1 : w5.cell? ⟨wr.heap.size + 1, 1, none⟩ = some (.int .i64 r.op) := HMB5.out.cell 1; have y2 : w5.cell? ⟨wr.heap.size + 1, 2, none⟩ = some (.int .i64 r.w) := HMB5.out.cell 2; have y3 : w5.cell? ⟨wr.heap.size + 1, 3, none⟩ = some (.int .u16 r.val) := HMB5.out.cell 3; have y4 : w5.cell? ⟨wr.heap.size + 1, 4, none⟩ = some (.int .u8 r.a) := HMB5.out.cell 4; have y5 : w5.cell? ⟨wr.heap.size + 1, 5, none⟩ = some (.int .u8 r.b) := HMB5.out.cell 5; have y6 : w5.cell? ⟨wr.heap.size + 1, 6, none⟩ = some (.int .u8 r.c) := HMB5.out.cell 6; have y7 : w5.cell? ⟨wr.heap.size + 1, 7, none⟩ = some (.int .i64 r.w) := HMB5.out.cell 7; have y8 : w5.cell? ⟨wr.heap.size + 1, 8, none⟩ = some (.int .i64 i0) := HMB5.out.cell 8; have y9 : w5.cell? ⟨wr.heap.size + 1, 9, none⟩ = some (.int .i64 i1) := HMB5.out.cell 9; have y10 : w5.cell? ⟨wr.heap.size + 1, 10, none⟩ = some (.int .i64 i2) := HMB5.out.cell 10; have hsz5 : W0.heap.size ≤ w5.heap.size := C5.out.below0.size; clear hb5))
  obtain ⟨iM, hi, hz0, hz1', hz2'⟩ := info_parts infoMade
  have HI := Lib.hid (And.intro hi (And.intro hz0 (And.intro hz1' hz2')))
  clear hi hz0 hz1' hz2'
  go_wp2_with (at_builtin; refine wpList_append_lies _ rfl _ _ _ rfl W0.heap.size 38 iM _ 11 64 Tryd.underlying28 HI.out.1 HI.out.2.1 HI.out.2.2.1 HI.out.2.2.2 rfl (by omega) (.slice (some ⟨lg, 0, none⟩) ms.length lcap) ms.length (mdCells ms) rfl (by exact row_alike (HROW5.out.alloc _) rfl) ⟨w5.heap.size, 0, none⟩ 1 1 (⟨x, r, r.w, i0, i1, i2⟩ : Md).v rfl rfl (by exact World.news_of_block (cs := #[.int .i64 x, .int .i64 r.op, .int .i64 r.w, .int .u16 r.val, .int .u8 r.a, .int .u8 r.b, .int .u8 r.c, .int .i64 r.w, .int .i64 i0, .int .i64 i1, .int .i64 i2]) (t := 38) (fr := (0, 0)) (new_at (W := w5) rfl rfl)) (by simp [Md.v, Value.oneCell']) (by omega) (by unfold maxLen; omega) (by omega) (by simp; omega) (w5.heap.size + 1) (by simp) ?_; intro g6 cap6 w6 hown6 hg6 hat6 hlt6; have HO6 := Lib.hid hown6; have HG6 : Hid ((w5.alloc (.cells #[.int .i64 x, .int .i64 r.op, .int .i64 r.w, .int .u16 r.val, .int .u8 r.a, .int .u8 r.b, .int .u8 r.c, .int .i64 r.w, .int .i64 i0, .int .i64 i1, .int .i64 i2] 38)).grownBy w6 (some lg)) := ⟨hg6.os, hg6.tape, hg6.output, hg6.size, hg6.block⟩; have HAT := Lib.hid hat6; clear hown6 hg6 hat6)
  refine ⟨⟨k + 1, ns3, ms ++ [(⟨x, r, r.w, i0, i1, i2⟩ : Md)], vs, (.slice (some ⟨g6, 0, none⟩) (ms.length + 1) cap6), by omega, rfl, rfl, rfl, rfl, rfl, rfl, by first | rfl | (show some (Value.int .i64 _) = _; simp), ?_⟩, by simp [Wmu, intOf]; omega⟩
  have hlgW : W0.heap.size ≤ lg := hlb
  refine ⟨(C5.out.alloc _).grown2 HG6.out (fun b hb => ?_) (fun b hb => ?_), ?_, HVOK.out, ?_, HMOK.out.snoc HMD.out, by have := HNL.out; omega, by simp; omega, R.out.vge⟩
  · injection hb with hb; subst hb; exact ⟨.inl (.inr rfl), hlgW⟩
  · rcases hb with hb | hb
    · exact .inl (.inl (.inl hb))
    · have hb' : g6 = b := by simpa [Value.ownBlock] using hb
      subst hb'
      rcases HAT.out with e | e
      · have : lg = g6 := by simpa [Value.ownBlock] using e
        exact .inl (.inl (.inr (by rw [this]; rfl)))
      · exact .inr ⟨by simp; omega, hlt6⟩
  · have hv5 := HVB5.out
    refine (hv5.same (w' := w5.alloc (.cells #[.int .i64 x, .int .i64 r.op, .int .i64 r.w, .int .u16 r.val, .int .u8 r.a, .int .u8 r.b, .int .u8 r.c, .int .i64 r.w, .int .i64 i0, .int .i64 i1, .int .i64 i2] 38)) (alloc_other hv5.lt)).same (HG6.out.block _ (by have := hv5.lt; simp; omega) (fun e => ?_))
    injection e with e
    obtain ⟨cur, hc⟩ := row_block HROW5.out (g := lg) rfl
    exact hc.unlike hv5 (by decide) e.symm
  · have := HO6.out
    rw [show (ms ++ [(⟨x, r, r.w, i0, i1, i2⟩ : Md)]).length = ms.length + 1 by simp, mdCells_snoc]
    exact this

set_option maxHeartbeats 8000000 in
set_option maxRecDepth 1000000 in
theorem bnot (W0 wr : World) (ab vb k cap lcap g off : Nat) (LA : Option Addr) (rs : List Rw) (r : Rw) (ns : List Nd) (ms : List Md) (vs : List Int) (u : Nat → Value) (Q0 : Exit → Act → World → Prop)
    (hrel : BRel W0 wr ab vb k (.slice LA ms.length lcap) ns ms vs) (hR : RowsAt W0 (some ⟨g, off, none⟩) rs) (hgW : g < W0.heap.size) (hr : rs[k]? = some r) (hn : rs.length ≤ 200) (hcap : rs.length ≤ cap) (hcap2 : cap ≤ 9223372036854775807) (i0 i1 i2 : Nat) (hi0 : i0 < ms.length) (hi1 : i1 < ms.length) (hi2 : i2 < ms.length) (e0 : r.a.tmod (ms.length : Int) = (i0 : Int)) (e1 : r.b.tmod (ms.length : Int) = (i1 : Int)) (e2 : r.c.tmod (ms.length : Int) = (i2 : Int)) (ho : r.op = 3) :
    Code.wp Tryd.prog bbody (Exit.then (fun a' w'' => WI W0 ab vb cap (some ⟨g, off, none⟩) rs a' w'' ∧ Wmu rs.length a' < Wmu rs.length ⟨#[ptr ab, .slice (some ⟨g, off, none⟩) rs.length cap, u 2, u 3, u 4, u 5, .slice LA ms.length lcap, ptr vb, .int .i64 k, u 9, u 10, u 11, u 12, u 13, u 14, u 15, u 16, u 17, u 18, u 19, u 20, u 21, u 22, u 23, u 24, u 25, u 26, u 27, u 28, u 29, u 30, u 31, u 32, u 33, u 34, u 35, u 36, u 37, u 38, u 39, u 40, u 41, u 42, u 43, u 44, u 45, u 46, u 47, u 48, u 49, u 50, u 51, u 52, u 53, u 54, u 55, u 56, u 57, u 58, u 59, u 60, u 61, u 62, u 63, u 64, u 65, u 66, u 67, u 68, u 69, u 70, u 71, u 72, u 73, u 74, u 75, u 76, u 77, u 78, u 79, u 80, u 81, u 82, u 83, u 84, u 85, u 86, u 87, u 88, u 89, u 90, u 91, u 92, u 93, u 94, u 95, u 96, u 97, u 98, u 99, u 100, u 101, u 102, u 103, u 104, u 105, u 106, u 107, u 108, u 109, u 110, u 111, u 112, u 113, u 114, u 115, u 116, u 117, u 118, u 119, u 120, u 121, u 122, u 123, u 124, u 125, u 126, u 127, u 128, u 129, u 130, u 131, u 132, u 133, u 134, u 135, u 136, u 137, u 138, u 139, u 140, u 141, u 142, u 143, u 144, u 145, u 146, u 147, u 148, u 149, u 150, u 151, u 152, u 153, u 154, u 155, u 156, u 157, u 158, u 159, u 160, u 161, u 162, u 163, u 164, u 165, u 166, u 167, u 168, u 169, u 170, u 171, u 172, u 173, u 174, u 175, u 176, u 177, u 178, u 179, u 180, u 181, u 182, u 183, u 184, u 185, u 186, u 187, u 188, u 189, u 190, u 191, u 192, u 193, u 194, u 195, u 196, u 197, u 198, u 199, u 200, u 201, u 202, u 203, u 204, u 205, u 206, u 207, u 208, u 209, u 210, u 211, u 212, u 213, u 214, u 215, u 216, u 217, u 218, u 219, u 220, u 221, u 222, u 223, u 224, u 225, u 226, u 227, u 228, u 229, u 230, u 231, u 232, u 233, u 234, u 235, u 236, u 237, u 238, u 239, u 240, u 241, u 242, u 243, u 244, u 245, u 246, u 247, u 248, u 249, u 250, u 251, u 252, u 253, u 254, u 255, u 256, u 257, u 258, u 259, u 260, u 261, u 262, u 263, u 264, u 265, u 266, u 267, u 268, u 269, u 270, u 271, u 272, u 273, u 274, u 275, u 276, u 277, u 278, u 279, u 280, u 281, u 282, u 283, u 284, u 285, u 286, u 287, u 288, u 289, u 290, u 291, u 292, u 293, u 294, u 295, u 296, u 297, u 298, u 299, u 300, u 301, u 302, u 303, u 304, u 305, u 306, u 307, u 308, u 309, u 310, u 311, u 312, u 313, u 314, u 315, u 316, u 317, u 318, u 319, u 320, u 321, u 322, u 323, u 324], []⟩) Q0) ⟨#[ptr ab, .slice (some ⟨g, off, none⟩) rs.length cap, u 2, u 3, u 4, u 5, .slice LA ms.length lcap, ptr vb, .int .i64 k, u 9, u 10, u 11, u 12, u 13, u 14, u 15, u 16, u 17, u 18, u 19, u 20, u 21, u 22, u 23, u 24, u 25, u 26, u 27, u 28, u 29, u 30, u 31, u 32, u 33, u 34, u 35, u 36, u 37, u 38, u 39, u 40, u 41, u 42, u 43, u 44, u 45, u 46, u 47, u 48, u 49, u 50, u 51, u 52, u 53, u 54, u 55, u 56, u 57, u 58, u 59, u 60, u 61, u 62, u 63, u 64, u 65, u 66, u 67, u 68, u 69, u 70, u 71, u 72, u 73, u 74, u 75, u 76, u 77, u 78, u 79, u 80, u 81, u 82, u 83, u 84, u 85, u 86, u 87, u 88, u 89, u 90, u 91, u 92, u 93, u 94, u 95, u 96, u 97, u 98, u 99, u 100, u 101, u 102, u 103, u 104, u 105, u 106, u 107, u 108, u 109, u 110, u 111, u 112, u 113, u 114, u 115, u 116, u 117, u 118, u 119, u 120, u 121, u 122, u 123, u 124, u 125, u 126, u 127, u 128, u 129, u 130, u 131, u 132, u 133, u 134, u 135, u 136, u 137, u 138, u 139, u 140, u 141, u 142, u 143, u 144, u 145, u 146, u 147, u 148, u 149, u 150, u 151, u 152, u 153, u 154, u 155, u 156, u 157, u 158, u 159, u 160, u 161, u 162, u 163, u 164, u 165, u 166, u 167, u 168, u 169, u 170, u 171, u 172, u 173, u 174, u 175, u 176, u 177, u 178, u 179, u 180, u 181, u 182, u 183, u 184, u 185, u 186, u 187, u 188, u 189, u 190, u 191, u 192, u 193, u 194, u 195, u 196, u 197, u 198, u 199, u 200, u 201, u 202, u 203, u 204, u 205, u 206, u 207, u 208, u 209, u 210, u 211, u 212, u 213, u 214, u 215, u 216, u 217, u 218, u 219, u 220, u 221, u 222, u 223, u 224, u 225, u 226, u 227, u 228, u 229, u 230, u 231, u 232, u 233, u 234, u 235, u 236, u 237, u 238, u 239, u 240, u 241, u 242, u 243, u 244, u 245, u 246, u 247, u 248, u 249, u 250, u 251, u 252, u 253, u 254, u 255, u 256, u 257, u 258, u 259, u 260, u 261, u 262, u 263, u 264, u 265, u 266, u 267, u 268, u 269, u 270, u 271, u 272, u 273, u 274, u 275, u 276, u 277, u 278, u 279, u 280, u 281, u 282, u 283, u 284, u 285, u 286, u 287, u 288, u 289, u 290, u 291, u 292, u 293, u 294, u 295, u 296, u 297, u 298, u 299, u 300, u 301, u 302, u 303, u 304, u 305, u 306, u 307, u 308, u 309, u 310, u 311, u 312, u 313, u 314, u 315, u 316, u 317, u 318, u 319, u 320, u 321, u 322, u 323, u 324], []⟩ wr := by
  have hlt : k < rs.length := (List.getElem?_eq_some_iff.1 hr).1
  have hgl : g < wr.heap.size := Nat.lt_of_lt_of_le hgW hrel.cur.below0.size
  have hvbl : vb < wr.heap.size := hrel.hv.lt
  have hok := hR.ok r (List.mem_of_getElem? hr)
  have key : ∀ j, j < 6 → wr.cell? ⟨g, off + k * 6 + j, none⟩ = r.v[j]? := fun j hj => by
    obtain ⟨g', off', hA, _, hc⟩ := hR.get k r hr
    injection hA with hA
    injection hA with h1 h2
    subst h1; subst h2
    exact (hrel.cur.below0.cell (p := ⟨g, off + k * 6 + j, none⟩) hgW).trans (hc j hj)
  have r0 : wr.cell? ⟨g, off + k * 6, none⟩ = some (.int .i64 r.op) := key 0 (by decide)
  have r1 : wr.cell? ⟨g, off + k * 6 + 1, none⟩ = some (.int .i64 r.w) := key 1 (by decide)
  have r2 : wr.cell? ⟨g, off + k * 6 + 2, none⟩ = some (.int .u16 r.val) := key 2 (by decide)
  have r3 : wr.cell? ⟨g, off + k * 6 + 3, none⟩ = some (.int .u8 r.a) := key 3 (by decide)
  have r4 : wr.cell? ⟨g, off + k * 6 + 4, none⟩ = some (.int .u8 r.b) := key 4 (by decide)
  have r5 : wr.cell? ⟨g, off + k * 6 + 5, none⟩ = some (.int .u8 r.c) := key 5 (by decide)
  have hml := hrel.ml
  have zm := zero_made
  have R := Lib.hid hrel
  have HOK := Lib.hid hok
  clear hrel hR hr key hok
  obtain ⟨m0, hm0, k0⟩ := R.out.mok.at_ (show i0 < ms.length by omega)
  obtain ⟨m1_, hm1, k1⟩ := R.out.mok.at_ (show i1 < ms.length by omega)
  obtain ⟨m2, hm2, k2⟩ := R.out.mok.at_ (show i2 < ms.length by omega)
  obtain ⟨lg, lc, hLA, hlg, hlb, hlc1, hlc2, hc0⟩ := row_md R.out.row hm0
  injection hLA with hLA1 hLA2 hLA3
  subst hLA1; subst hLA3
  obtain ⟨lg', lc', hLB, _, _, _, _, hc1⟩ := row_md R.out.row hm1
  injection hLB with hLB1 hLB2 hLB3
  injection hLB1 with hLB1
  injection hLB1 with hLB1 _
  subst hLB1; subst hLB3
  obtain ⟨lg'', lc'', hLB, _, _, _, _, hc2⟩ := row_md R.out.row hm2
  injection hLB with hLB1 hLB2 hLB3
  injection hLB1 with hLB1
  injection hLB1 with hLB1 _
  subst hLB1; subst hLB3
  have a0 : wr.cell? ⟨lg, i0 * 11, none⟩ = some (.int .i64 m0.t) := hc0 0 (by decide)
  have a7 : wr.cell? ⟨lg, i0 * 11 + 7, none⟩ = some (.int .i64 m0.w) := hc0 7 (by decide)
  have b0 : wr.cell? ⟨lg, i1 * 11, none⟩ = some (.int .i64 m1_.t) := hc1 0 (by decide)
  have b7 : wr.cell? ⟨lg, i1 * 11 + 7, none⟩ = some (.int .i64 m1_.w) := hc1 7 (by decide)
  have d0 : wr.cell? ⟨lg, i2 * 11, none⟩ = some (.int .i64 m2.t) := hc2 0 (by decide)
  have d7 : wr.cell? ⟨lg, i2 * 11 + 7, none⟩ = some (.int .i64 m2.w) := hc2 7 (by decide)
  unfold maxLen at hlc2
  have HM0 := Lib.hid hm0
  have HM1 := Lib.hid hm1
  have HM2 := Lib.hid hm2
  have K0 := Lib.hid k0
  have K1 := Lib.hid k1
  have K2 := Lib.hid k2
  have hvA : IntKind.i64.wrap r.a = r.a := by have := HOK.out.a; exact IntWalk.i64_in _ (by omega)
  have hvB : IntKind.i64.wrap r.b = r.b := by have := HOK.out.b; exact IntWalk.i64_in _ (by omega)
  have hvC : IntKind.i64.wrap r.c = r.c := by have := HOK.out.c; exact IntWalk.i64_in _ (by omega)
  obtain ⟨oa0, oa1⟩ := HOK.out.a
  obtain ⟨ob0, ob1⟩ := HOK.out.b
  obtain ⟨oc0, oc1⟩ := HOK.out.c
  have g00 : (0 : Int) ≤ (i0 : Int) := by omega
  have g01 : (i0 : Int) < (ms.length : Int) := by omega
  have g10 : (0 : Int) ≤ (i1 : Int) := by omega
  have g11 : (i1 : Int) < (ms.length : Int) := by omega
  have g20 : (0 : Int) ≤ (i2 : Int) := by omega
  have g21 : (i2 : Int) < (ms.length : Int) := by omega
  have hml1 : (1 : Int) ≤ (ms.length : Int) := by omega
  have hz1 : ((ms.length : Int) == 0) = false := by simp; intro e; subst e; simp at hi0
  have hz2 : ¬ ms = [] := fun e => by subst e; simp at hi0
  have hz3 : (decide ((ms.length : Int) = 0)) = false := by simpa using hz2
  clear hm0 hm1 hm2 k0 k1 k2 hc0 hc1 hc2 hLA2 hLB2
  have t1 : (r.op == 1) = false := by simp; omega
  have t2 : (r.op == 2) = false := by simp; omega
  have t3 : (r.op == 3) = true := by simpa using ho
  have HO := Lib.hid ho
  clear ho
  have C2 : Hid (Cur W0 ((wr.alloc (.cells #[.int .i64 r.op, .int .i64 r.w, .int .u16 r.val, .int .u8 r.a, .int .u8 r.b, .int .u8 r.c] 35)).alloc (.cells #[.int .i64 0, .int .i64 r.op, .int .i64 r.w, .int .u16 r.val, .int .u8 r.a, .int .u8 r.b, .int .u8 r.c, .int .i64 0, .int .i64 i0, .int .i64 i1, .int .i64 i2] 38)) ab ns (Qm vb wr.heap.size (.slice (some ⟨lg, 0, none⟩) ms.length lcap))) := ((R.out.cur.mine _).mine _).less (fun b hb => by
    rcases hb with hb | hb | hb
    · exact .inl (.inl hb)
    · exact .inl (.inr hb)
    · exact .inr (by simpa using hb))
  have HRB2 : Hid (Has ((wr.alloc (.cells #[.int .i64 r.op, .int .i64 r.w, .int .u16 r.val, .int .u8 r.a, .int .u8 r.b, .int .u8 r.c] 35)).alloc (.cells #[.int .i64 0, .int .i64 r.op, .int .i64 r.w, .int .u16 r.val, .int .u8 r.a, .int .u8 r.b, .int .u8 r.c, .int .i64 0, .int .i64 i0, .int .i64 i1, .int .i64 i2] 38)) wr.heap.size 35 #[.int .i64 r.op, .int .i64 r.w, .int .u16 r.val, .int .u8 r.a, .int .u8 r.b, .int .u8 r.c]) := (Has.new wr 35 #[.int .i64 r.op, .int .i64 r.w, .int .u16 r.val, .int .u8 r.a, .int .u8 r.b, .int .u8 r.c]).same (alloc_other (by simp))
  have HMB2 : Hid (Has ((wr.alloc (.cells #[.int .i64 r.op, .int .i64 r.w, .int .u16 r.val, .int .u8 r.a, .int .u8 r.b, .int .u8 r.c] 35)).alloc (.cells #[.int .i64 0, .int .i64 r.op, .int .i64 r.w, .int .u16 r.val, .int .u8 r.a, .int .u8 r.b, .int .u8 r.c, .int .i64 0, .int .i64 i0, .int .i64 i1, .int .i64 i2] 38)) (wr.heap.size + 1) 38 #[.int .i64 0, .int .i64 r.op, .int .i64 r.w, .int .u16 r.val, .int .u8 r.a, .int .u8 r.b, .int .u8 r.c, .int .i64 0, .int .i64 i0, .int .i64 i1, .int .i64 i2]) := by
    have := Has.new (wr.alloc (.cells #[.int .i64 r.op, .int .i64 r.w, .int .u16 r.val, .int .u8 r.a, .int .u8 r.b, .int .u8 r.c] 35)) 38 #[.int .i64 0, .int .i64 r.op, .int .i64 r.w, .int .u16 r.val, .int .u8 r.a, .int .u8 r.b, .int .u8 r.c, .int .i64 0, .int .i64 i0, .int .i64 i1, .int .i64 i2]
    rw [show (wr.alloc (.cells #[.int .i64 r.op, .int .i64 r.w, .int .u16 r.val, .int .u8 r.a, .int .u8 r.b, .int .u8 r.c] 35)).heap.size = wr.heap.size + 1 by simp] at this
    exact this
  have HVB2 : Hid (Has ((wr.alloc (.cells #[.int .i64 r.op, .int .i64 r.w, .int .u16 r.val, .int .u8 r.a, .int .u8 r.b, .int .u8 r.c] 35)).alloc (.cells #[.int .i64 0, .int .i64 r.op, .int .i64 r.w, .int .u16 r.val, .int .u8 r.a, .int .u8 r.b, .int .u8 r.c, .int .i64 0, .int .i64 i0, .int .i64 i1, .int .i64 i2] 38)) vb 62 (va vs)) := (R.out.hv.same (alloc_other R.out.hv.lt)).same (alloc_other (by have := R.out.hv.lt; simp; omega))
  have HROW2 : Hid (((wr.alloc (.cells #[.int .i64 r.op, .int .i64 r.w, .int .u16 r.val, .int .u8 r.a, .int .u8 r.b, .int .u8 r.c] 35)).alloc (.cells #[.int .i64 0, .int .i64 r.op, .int .i64 r.w, .int .u16 r.val, .int .u8 r.a, .int .u8 r.b, .int .u8 r.c, .int .i64 0, .int .i64 i0, .int .i64 i1, .int .i64 i2] 38)).ownsRow W0.heap.size 38 11 (.slice (some ⟨lg, 0, none⟩) ms.length lcap) ms.length (mdCells ms)) := row_same R.out.row (fun b hb => by
    obtain ⟨cur, hc⟩ := row_block R.out.row hb
    exact (alloc_other (by have := hc.lt; simp; omega)).trans (alloc_other hc.lt))
  have hne1 : vb ≠ wr.heap.size := by omega
  have hne2 : vb ≠ wr.heap.size + 1 := by omega
  conv => arg 2; whnf
  go_wp2_with fail
  go_region_held3 (fun w' => w'.cell? ⟨wr.heap.size, 3, none⟩ = some (.int .u8 r.a) ∧ w'.cell? ⟨wr.heap.size, 4, none⟩ = some (.int .u8 r.b) ∧ w'.cell? ⟨wr.heap.size, 5, none⟩ = some (.int .u8 r.c)) (go_keep) (fail)
  go_wp2_with fail
  go_quiet (fail)
  go_wp2_with fail
  go_quiet (fail)
  go_wp2_with fail
  refine (l_not W0 _ ab ns (Qm vb wr.heap.size (.slice (some ⟨lg, 0, none⟩) ms.length lcap)) m0.t (by exact C2.out.alike rfl rfl rfl rfl) (by have := R.out.nl; omega) K0.out.t).mono ?_
  rintro e w3 ⟨x, ns3, rfl, N3, hx3⟩
  have C3 := Lib.hid N3.cur
  have HTW : Hid (wdt ns3 x = m0.w) := hx3.w.trans K0.out.w
  have HMOK := Lib.hid (R.out.mok.ext N3)
  have HVOK := Lib.hid (R.out.vok.ext N3.ext hx3.n)
  have HNL : Hid (ns3.length ≤ k + 1) := by have := N3.len; have := R.out.nl; show ns3.length ≤ k + 1; omega
  have HMD : Hid (MdOk ns3 ms ms.length ⟨x, r, m0.w, i0, i1, i2⟩) := by
    refine ⟨hx3.t, HTW.out, by show 1 ≤ r.op; rw [HO.out]; decide, by show r.op ≤ 18; rw [HO.out]; decide, HOK.out, fun _ => ⟨hi0, hi1, hi2⟩, fun env => ?_⟩
    show V ns3 env x = _
    rw [hx3.v, tOf_of HM0.out, wOf_of HM0.out, N3.V env K0.out.t]
    unfold nv lv
    simp only [HO.out]
    rw [K0.out.w]
    rfl
  have HMB3 : Hid (Has w3 (wr.heap.size + 1) 38 #[.int .i64 0, .int .i64 r.op, .int .i64 r.w, .int .u16 r.val, .int .u8 r.a, .int .u8 r.b, .int .u8 r.c, .int .i64 0, .int .i64 i0, .int .i64 i1, .int .i64 i2]) := HMB2.out.same (N3.q _ (.inr (.inr rfl)))
  have HRB3 : Hid (Has w3 wr.heap.size 35 #[.int .i64 r.op, .int .i64 r.w, .int .u16 r.val, .int .u8 r.a, .int .u8 r.b, .int .u8 r.c]) := HRB2.out.same (N3.q _ (.inr (.inl rfl)))
  have HVB3 : Hid (Has w3 vb 62 (va vs)) := HVB2.out.same (N3.q _ (.inl (.inl rfl)))
  have HROW3 : Hid (w3.ownsRow W0.heap.size 38 11 (.slice (some ⟨lg, 0, none⟩) ms.length lcap) ms.length (mdCells ms)) := row_same HROW2.out (fun b hb => N3.q _ (.inl (.inr hb)))
  have z0 : w3.cell? ⟨wr.heap.size + 1, 0, none⟩ = some (.int .i64 0) := HMB3.out.cell 0
  have z1 : w3.cell? ⟨wr.heap.size + 1, 1, none⟩ = some (.int .i64 r.op) := HMB3.out.cell 1
  have z2 : w3.cell? ⟨wr.heap.size + 1, 2, none⟩ = some (.int .i64 r.w) := HMB3.out.cell 2
  have z3 : w3.cell? ⟨wr.heap.size + 1, 3, none⟩ = some (.int .u16 r.val) := HMB3.out.cell 3
  have z4 : w3.cell? ⟨wr.heap.size + 1, 4, none⟩ = some (.int .u8 r.a) := HMB3.out.cell 4
  have z5 : w3.cell? ⟨wr.heap.size + 1, 5, none⟩ = some (.int .u8 r.b) := HMB3.out.cell 5
  have z6 : w3.cell? ⟨wr.heap.size + 1, 6, none⟩ = some (.int .u8 r.c) := HMB3.out.cell 6
  have z7 : w3.cell? ⟨wr.heap.size + 1, 7, none⟩ = some (.int .i64 0) := HMB3.out.cell 7
  have z8 : w3.cell? ⟨wr.heap.size + 1, 8, none⟩ = some (.int .i64 i0) := HMB3.out.cell 8
  have z9 : w3.cell? ⟨wr.heap.size + 1, 9, none⟩ = some (.int .i64 i1) := HMB3.out.cell 9
  have z10 : w3.cell? ⟨wr.heap.size + 1, 10, none⟩ = some (.int .i64 i2) := HMB3.out.cell 10
  have zfr : ∀ i, w3.frozen? ⟨wr.heap.size + 1, i, none⟩ = false := HMB3.out.free
  have rr0 : w3.cell? ⟨wr.heap.size, 0, none⟩ = some (.int .i64 r.op) := HRB3.out.cell 0
  have rr1 : w3.cell? ⟨wr.heap.size, 1, none⟩ = some (.int .i64 r.w) := HRB3.out.cell 1
  have rr2 : w3.cell? ⟨wr.heap.size, 2, none⟩ = some (.int .u16 r.val) := HRB3.out.cell 2
  clear N3 hx3
  have C4 : Hid (Cur W0 ((w3.setCell ⟨wr.heap.size + 1, 0, none⟩ (.int .i64 x)).setCell ⟨wr.heap.size + 1, 7, none⟩ (.int .i64 m0.w)) ab ns3 (Qm vb wr.heap.size (.slice (some ⟨lg, 0, none⟩) ms.length lcap))) := ((C3.out.store (p := ⟨wr.heap.size + 1, 0, none⟩) (.inr (.inr rfl)) (by have := R.out.cur.below0.size; show W0.heap.size ≤ wr.heap.size + 1; omega) (.int .i64 x)).store (p := ⟨wr.heap.size + 1, 7, none⟩) (.inr (.inr rfl)) (by have := R.out.cur.below0.size; show W0.heap.size ≤ wr.heap.size + 1; omega) (.int .i64 m0.w))
  have HMB4 : Hid (Has ((w3.setCell ⟨wr.heap.size + 1, 0, none⟩ (.int .i64 x)).setCell ⟨wr.heap.size + 1, 7, none⟩ (.int .i64 m0.w)) (wr.heap.size + 1) 38 #[.int .i64 x, .int .i64 r.op, .int .i64 r.w, .int .u16 r.val, .int .u8 r.a, .int .u8 r.b, .int .u8 r.c, .int .i64 m0.w, .int .i64 i0, .int .i64 i1, .int .i64 i2]) := ((HMB3.out.put 0 (.int .i64 x)).put 7 (.int .i64 m0.w))
  have HVB4 : Hid (Has ((w3.setCell ⟨wr.heap.size + 1, 0, none⟩ (.int .i64 x)).setCell ⟨wr.heap.size + 1, 7, none⟩ (.int .i64 m0.w)) vb 62 (va vs)) := HVB3.out.same ((set_other (p := ⟨wr.heap.size + 1, 7, none⟩) hne2).trans (set_other (p := ⟨wr.heap.size + 1, 0, none⟩) hne2))
  have HROW4 : Hid (((w3.setCell ⟨wr.heap.size + 1, 0, none⟩ (.int .i64 x)).setCell ⟨wr.heap.size + 1, 7, none⟩ (.int .i64 m0.w)).ownsRow W0.heap.size 38 11 (.slice (some ⟨lg, 0, none⟩) ms.length lcap) ms.length (mdCells ms)) := row_same HROW3.out (fun b hb => by
    have hb2 : lg = b := by simpa [Value.ownBlock] using hb
    have hne : b ≠ wr.heap.size + 1 := by omega
    exact ((set_other (p := ⟨wr.heap.size + 1, 7, none⟩) hne).trans (set_other (p := ⟨wr.heap.size + 1, 0, none⟩) hne)))
  have HWD := fun (W : World) (C : Cur W0 W ab ns3 (Qm vb wr.heap.size (.slice (some ⟨lg, 0, none⟩) ms.length lcap))) => Lib.hid (r_width C x)
  rw [HTW.out] at HWD
  go_wp2_with (fail)
  have q0 : ((w3.setCell ⟨wr.heap.size + 1, 0, none⟩ (.int .i64 x)).setCell ⟨wr.heap.size + 1, 7, none⟩ (.int .i64 m0.w)).cell? ⟨wr.heap.size + 1, 0, none⟩ = some (.int .i64 x) := HMB4.out.cell 0
  have q7 : ((w3.setCell ⟨wr.heap.size + 1, 0, none⟩ (.int .i64 x)).setCell ⟨wr.heap.size + 1, 7, none⟩ (.int .i64 m0.w)).cell? ⟨wr.heap.size + 1, 7, none⟩ = some (.int .i64 m0.w) := HMB4.out.cell 7
  go_region_held3 (fun w' => w'.cell? ⟨wr.heap.size + 1, 0, none⟩ = some (.int .i64 x) ∧ w'.cell? ⟨wr.heap.size + 1, 7, none⟩ = some (.int .i64 m0.w)) (go_keep) (first | (go_at_call 14; refine (HWD _ (by exact C4.out.alike rfl rfl rfl rfl)).out.mono ?_; rintro e w5 ⟨rfl, hb5⟩; have C5 := Lib.hid (Cur.below (by exact C4.out.alike rfl rfl rfl rfl) hb5); have HMB5 : Hid (Has w5 (wr.heap.size + 1) 38 #[.int .i64 x, .int .i64 r.op, .int .i64 r.w, .int .u16 r.val, .int .u8 r.a, .int .u8 r.b, .int .u8 r.c, .int .i64 m0.w, .int .i64 i0, .int .i64 i1, .int .i64 i2]) := (HMB4.out.same (by exact hb5.block _ HMB4.out.lt)); have HVB5 : Hid (Has w5 vb 62 (va vs)) := (HVB4.out.same (by exact hb5.block _ HVB4.out.lt)); have HROW5 : Hid (w5.ownsRow W0.heap.size 38 11 (.slice (some ⟨lg, 0, none⟩) ms.length lcap) ms.length (mdCells ms)) := (row_same HROW4.out (fun b hb => by (obtain ⟨cur, hc⟩ := row_block HROW4.out hb; exact hb5.block _ hc.lt))); have y0 : w5.cell? ⟨wr.heap.size + 1, 0, none⟩ = some (.int .i64 x) := HMB5.out.cell 0; have y1 : w5.cell? ⟨wr.heap.size + 1, 1, none⟩ = some (.int .i64 r.op) := HMB5.out.cell 1; have y2 : w5.cell? ⟨wr.heap.size + 1, 2, none⟩ = some (.int .i64 r.w) := HMB5.out.cell 2; have y3 : w5.cell? ⟨wr.heap.size + 1, 3, none⟩ = some (.int .u16 r.val) := HMB5.out.cell 3; have y4 : w5.cell? ⟨wr.heap.size + 1, 4, none⟩ = some (.int .u8 r.a) := HMB5.out.cell 4; have y5 : w5.cell? ⟨wr.heap.size + 1, 5, none⟩ = some (.int .u8 r.b) := HMB5.out.cell 5; have y6 : w5.cell? ⟨wr.heap.size + 1, 6, none⟩ = some (.int .u8 r.c) := HMB5.out.cell 6; have y7 : w5.cell? ⟨wr.heap.size + 1, 7, none⟩ = some (.int .i64 m0.w) := HMB5.out.cell 7; have y8 : w5.cell? ⟨wr.heap.size + 1, 8, none⟩ = some (.int .i64 i0) := HMB5.out.cell 8; have y9 : w5.cell? ⟨wr.heap.size + 1, 9, none⟩ = some (.int .i64 i1) := HMB5.out.cell 9; have y10 : w5.cell? ⟨wr.heap.size + 1, 10, none⟩ = some (.int .i64 i2) := HMB5.out.cell 10; have hsz5 : W0.heap.size ≤ w5.heap.size := C5.out.below0.size; clear hb5))
  obtain ⟨iM, hi, hz0, hz1', hz2'⟩ := info_parts infoMade
  have HI := Lib.hid (And.intro hi (And.intro hz0 (And.intro hz1' hz2')))
  clear hi hz0 hz1' hz2'
  go_wp2_with (at_builtin; refine wpList_append_lies _ rfl _ _ _ rfl W0.heap.size 38 iM _ 11 64 Tryd.underlying28 HI.out.1 HI.out.2.1 HI.out.2.2.1 HI.out.2.2.2 rfl (by omega) (.slice (some ⟨lg, 0, none⟩) ms.length lcap) ms.length (mdCells ms) rfl (by exact row_alike (HROW5.out.alloc _) rfl) ⟨w5.heap.size, 0, none⟩ 1 1 (⟨x, r, m0.w, i0, i1, i2⟩ : Md).v rfl rfl (by exact World.news_of_block (cs := #[.int .i64 x, .int .i64 r.op, .int .i64 r.w, .int .u16 r.val, .int .u8 r.a, .int .u8 r.b, .int .u8 r.c, .int .i64 m0.w, .int .i64 i0, .int .i64 i1, .int .i64 i2]) (t := 38) (fr := (0, 0)) (new_at (W := w5) rfl rfl)) (by simp [Md.v, Value.oneCell']) (by omega) (by unfold maxLen; omega) (by omega) (by simp; omega) (w5.heap.size + 1) (by simp) ?_; intro g6 cap6 w6 hown6 hg6 hat6 hlt6; have HO6 := Lib.hid hown6; have HG6 : Hid ((w5.alloc (.cells #[.int .i64 x, .int .i64 r.op, .int .i64 r.w, .int .u16 r.val, .int .u8 r.a, .int .u8 r.b, .int .u8 r.c, .int .i64 m0.w, .int .i64 i0, .int .i64 i1, .int .i64 i2] 38)).grownBy w6 (some lg)) := ⟨hg6.os, hg6.tape, hg6.output, hg6.size, hg6.block⟩; have HAT := Lib.hid hat6; clear hown6 hg6 hat6)
  refine ⟨⟨k + 1, ns3, ms ++ [(⟨x, r, m0.w, i0, i1, i2⟩ : Md)], vs, (.slice (some ⟨g6, 0, none⟩) (ms.length + 1) cap6), by omega, rfl, rfl, rfl, rfl, rfl, rfl, by first | rfl | (show some (Value.int .i64 _) = _; simp), ?_⟩, by simp [Wmu, intOf]; omega⟩
  have hlgW : W0.heap.size ≤ lg := hlb
  refine ⟨(C5.out.alloc _).grown2 HG6.out (fun b hb => ?_) (fun b hb => ?_), ?_, HVOK.out, ?_, HMOK.out.snoc HMD.out, by have := HNL.out; omega, by simp; omega, R.out.vge⟩
  · injection hb with hb; subst hb; exact ⟨.inl (.inr rfl), hlgW⟩
  · rcases hb with hb | hb
    · exact .inl (.inl (.inl hb))
    · have hb' : g6 = b := by simpa [Value.ownBlock] using hb
      subst hb'
      rcases HAT.out with e | e
      · have : lg = g6 := by simpa [Value.ownBlock] using e
        exact .inl (.inl (.inr (by rw [this]; rfl)))
      · exact .inr ⟨by simp; omega, hlt6⟩
  · have hv5 := HVB5.out
    refine (hv5.same (w' := w5.alloc (.cells #[.int .i64 x, .int .i64 r.op, .int .i64 r.w, .int .u16 r.val, .int .u8 r.a, .int .u8 r.b, .int .u8 r.c, .int .i64 m0.w, .int .i64 i0, .int .i64 i1, .int .i64 i2] 38)) (alloc_other hv5.lt)).same (HG6.out.block _ (by have := hv5.lt; simp; omega) (fun e => ?_))
    injection e with e
    obtain ⟨cur, hc⟩ := row_block HROW5.out (g := lg) rfl
    exact hc.unlike hv5 (by decide) e.symm
  · have := HO6.out
    rw [show (ms ++ [(⟨x, r, m0.w, i0, i1, i2⟩ : Md)]).length = ms.length + 1 by simp, mdCells_snoc]
    exact this

set_option maxHeartbeats 8000000 in
set_option maxRecDepth 1000000 in
theorem bite (W0 wr : World) (ab vb k cap lcap g off : Nat) (LA : Option Addr) (rs : List Rw) (r : Rw) (ns : List Nd) (ms : List Md) (vs : List Int) (u : Nat → Value) (Q0 : Exit → Act → World → Prop)
    (hrel : BRel W0 wr ab vb k (.slice LA ms.length lcap) ns ms vs) (hR : RowsAt W0 (some ⟨g, off, none⟩) rs) (hgW : g < W0.heap.size) (hr : rs[k]? = some r) (hn : rs.length ≤ 200) (hcap : rs.length ≤ cap) (hcap2 : cap ≤ 9223372036854775807) (i0 i1 i2 : Nat) (hi0 : i0 < ms.length) (hi1 : i1 < ms.length) (hi2 : i2 < ms.length) (e0 : r.a.tmod (ms.length : Int) = (i0 : Int)) (e1 : r.b.tmod (ms.length : Int) = (i1 : Int)) (e2 : r.c.tmod (ms.length : Int) = (i2 : Int)) (ho : r.op = 16) (hw0 : wOf ms i0 = 1) (hw1 : wOf ms i1 = wOf ms i2) :
    Code.wp Tryd.prog bbody (Exit.then (fun a' w'' => WI W0 ab vb cap (some ⟨g, off, none⟩) rs a' w'' ∧ Wmu rs.length a' < Wmu rs.length ⟨#[ptr ab, .slice (some ⟨g, off, none⟩) rs.length cap, u 2, u 3, u 4, u 5, .slice LA ms.length lcap, ptr vb, .int .i64 k, u 9, u 10, u 11, u 12, u 13, u 14, u 15, u 16, u 17, u 18, u 19, u 20, u 21, u 22, u 23, u 24, u 25, u 26, u 27, u 28, u 29, u 30, u 31, u 32, u 33, u 34, u 35, u 36, u 37, u 38, u 39, u 40, u 41, u 42, u 43, u 44, u 45, u 46, u 47, u 48, u 49, u 50, u 51, u 52, u 53, u 54, u 55, u 56, u 57, u 58, u 59, u 60, u 61, u 62, u 63, u 64, u 65, u 66, u 67, u 68, u 69, u 70, u 71, u 72, u 73, u 74, u 75, u 76, u 77, u 78, u 79, u 80, u 81, u 82, u 83, u 84, u 85, u 86, u 87, u 88, u 89, u 90, u 91, u 92, u 93, u 94, u 95, u 96, u 97, u 98, u 99, u 100, u 101, u 102, u 103, u 104, u 105, u 106, u 107, u 108, u 109, u 110, u 111, u 112, u 113, u 114, u 115, u 116, u 117, u 118, u 119, u 120, u 121, u 122, u 123, u 124, u 125, u 126, u 127, u 128, u 129, u 130, u 131, u 132, u 133, u 134, u 135, u 136, u 137, u 138, u 139, u 140, u 141, u 142, u 143, u 144, u 145, u 146, u 147, u 148, u 149, u 150, u 151, u 152, u 153, u 154, u 155, u 156, u 157, u 158, u 159, u 160, u 161, u 162, u 163, u 164, u 165, u 166, u 167, u 168, u 169, u 170, u 171, u 172, u 173, u 174, u 175, u 176, u 177, u 178, u 179, u 180, u 181, u 182, u 183, u 184, u 185, u 186, u 187, u 188, u 189, u 190, u 191, u 192, u 193, u 194, u 195, u 196, u 197, u 198, u 199, u 200, u 201, u 202, u 203, u 204, u 205, u 206, u 207, u 208, u 209, u 210, u 211, u 212, u 213, u 214, u 215, u 216, u 217, u 218, u 219, u 220, u 221, u 222, u 223, u 224, u 225, u 226, u 227, u 228, u 229, u 230, u 231, u 232, u 233, u 234, u 235, u 236, u 237, u 238, u 239, u 240, u 241, u 242, u 243, u 244, u 245, u 246, u 247, u 248, u 249, u 250, u 251, u 252, u 253, u 254, u 255, u 256, u 257, u 258, u 259, u 260, u 261, u 262, u 263, u 264, u 265, u 266, u 267, u 268, u 269, u 270, u 271, u 272, u 273, u 274, u 275, u 276, u 277, u 278, u 279, u 280, u 281, u 282, u 283, u 284, u 285, u 286, u 287, u 288, u 289, u 290, u 291, u 292, u 293, u 294, u 295, u 296, u 297, u 298, u 299, u 300, u 301, u 302, u 303, u 304, u 305, u 306, u 307, u 308, u 309, u 310, u 311, u 312, u 313, u 314, u 315, u 316, u 317, u 318, u 319, u 320, u 321, u 322, u 323, u 324], []⟩) Q0) ⟨#[ptr ab, .slice (some ⟨g, off, none⟩) rs.length cap, u 2, u 3, u 4, u 5, .slice LA ms.length lcap, ptr vb, .int .i64 k, u 9, u 10, u 11, u 12, u 13, u 14, u 15, u 16, u 17, u 18, u 19, u 20, u 21, u 22, u 23, u 24, u 25, u 26, u 27, u 28, u 29, u 30, u 31, u 32, u 33, u 34, u 35, u 36, u 37, u 38, u 39, u 40, u 41, u 42, u 43, u 44, u 45, u 46, u 47, u 48, u 49, u 50, u 51, u 52, u 53, u 54, u 55, u 56, u 57, u 58, u 59, u 60, u 61, u 62, u 63, u 64, u 65, u 66, u 67, u 68, u 69, u 70, u 71, u 72, u 73, u 74, u 75, u 76, u 77, u 78, u 79, u 80, u 81, u 82, u 83, u 84, u 85, u 86, u 87, u 88, u 89, u 90, u 91, u 92, u 93, u 94, u 95, u 96, u 97, u 98, u 99, u 100, u 101, u 102, u 103, u 104, u 105, u 106, u 107, u 108, u 109, u 110, u 111, u 112, u 113, u 114, u 115, u 116, u 117, u 118, u 119, u 120, u 121, u 122, u 123, u 124, u 125, u 126, u 127, u 128, u 129, u 130, u 131, u 132, u 133, u 134, u 135, u 136, u 137, u 138, u 139, u 140, u 141, u 142, u 143, u 144, u 145, u 146, u 147, u 148, u 149, u 150, u 151, u 152, u 153, u 154, u 155, u 156, u 157, u 158, u 159, u 160, u 161, u 162, u 163, u 164, u 165, u 166, u 167, u 168, u 169, u 170, u 171, u 172, u 173, u 174, u 175, u 176, u 177, u 178, u 179, u 180, u 181, u 182, u 183, u 184, u 185, u 186, u 187, u 188, u 189, u 190, u 191, u 192, u 193, u 194, u 195, u 196, u 197, u 198, u 199, u 200, u 201, u 202, u 203, u 204, u 205, u 206, u 207, u 208, u 209, u 210, u 211, u 212, u 213, u 214, u 215, u 216, u 217, u 218, u 219, u 220, u 221, u 222, u 223, u 224, u 225, u 226, u 227, u 228, u 229, u 230, u 231, u 232, u 233, u 234, u 235, u 236, u 237, u 238, u 239, u 240, u 241, u 242, u 243, u 244, u 245, u 246, u 247, u 248, u 249, u 250, u 251, u 252, u 253, u 254, u 255, u 256, u 257, u 258, u 259, u 260, u 261, u 262, u 263, u 264, u 265, u 266, u 267, u 268, u 269, u 270, u 271, u 272, u 273, u 274, u 275, u 276, u 277, u 278, u 279, u 280, u 281, u 282, u 283, u 284, u 285, u 286, u 287, u 288, u 289, u 290, u 291, u 292, u 293, u 294, u 295, u 296, u 297, u 298, u 299, u 300, u 301, u 302, u 303, u 304, u 305, u 306, u 307, u 308, u 309, u 310, u 311, u 312, u 313, u 314, u 315, u 316, u 317, u 318, u 319, u 320, u 321, u 322, u 323, u 324], []⟩ wr := by
  have hlt : k < rs.length := (List.getElem?_eq_some_iff.1 hr).1
  have hgl : g < wr.heap.size := Nat.lt_of_lt_of_le hgW hrel.cur.below0.size
  have hvbl : vb < wr.heap.size := hrel.hv.lt
  have hok := hR.ok r (List.mem_of_getElem? hr)
  have key : ∀ j, j < 6 → wr.cell? ⟨g, off + k * 6 + j, none⟩ = r.v[j]? := fun j hj => by
    obtain ⟨g', off', hA, _, hc⟩ := hR.get k r hr
    injection hA with hA
    injection hA with h1 h2
    subst h1; subst h2
    exact (hrel.cur.below0.cell (p := ⟨g, off + k * 6 + j, none⟩) hgW).trans (hc j hj)
  have r0 : wr.cell? ⟨g, off + k * 6, none⟩ = some (.int .i64 r.op) := key 0 (by decide)
  have r1 : wr.cell? ⟨g, off + k * 6 + 1, none⟩ = some (.int .i64 r.w) := key 1 (by decide)
  have r2 : wr.cell? ⟨g, off + k * 6 + 2, none⟩ = some (.int .u16 r.val) := key 2 (by decide)
  have r3 : wr.cell? ⟨g, off + k * 6 + 3, none⟩ = some (.int .u8 r.a) := key 3 (by decide)
  have r4 : wr.cell? ⟨g, off + k * 6 + 4, none⟩ = some (.int .u8 r.b) := key 4 (by decide)
  have r5 : wr.cell? ⟨g, off + k * 6 + 5, none⟩ = some (.int .u8 r.c) := key 5 (by decide)
  have hml := hrel.ml
  have zm := zero_made
  have R := Lib.hid hrel
  have HOK := Lib.hid hok
  clear hrel hR hr key hok
  obtain ⟨m0, hm0, k0⟩ := R.out.mok.at_ (show i0 < ms.length by omega)
  obtain ⟨m1_, hm1, k1⟩ := R.out.mok.at_ (show i1 < ms.length by omega)
  obtain ⟨m2, hm2, k2⟩ := R.out.mok.at_ (show i2 < ms.length by omega)
  obtain ⟨lg, lc, hLA, hlg, hlb, hlc1, hlc2, hc0⟩ := row_md R.out.row hm0
  injection hLA with hLA1 hLA2 hLA3
  subst hLA1; subst hLA3
  obtain ⟨lg', lc', hLB, _, _, _, _, hc1⟩ := row_md R.out.row hm1
  injection hLB with hLB1 hLB2 hLB3
  injection hLB1 with hLB1
  injection hLB1 with hLB1 _
  subst hLB1; subst hLB3
  obtain ⟨lg'', lc'', hLB, _, _, _, _, hc2⟩ := row_md R.out.row hm2
  injection hLB with hLB1 hLB2 hLB3
  injection hLB1 with hLB1
  injection hLB1 with hLB1 _
  subst hLB1; subst hLB3
  have a0 : wr.cell? ⟨lg, i0 * 11, none⟩ = some (.int .i64 m0.t) := hc0 0 (by decide)
  have a7 : wr.cell? ⟨lg, i0 * 11 + 7, none⟩ = some (.int .i64 m0.w) := hc0 7 (by decide)
  have b0 : wr.cell? ⟨lg, i1 * 11, none⟩ = some (.int .i64 m1_.t) := hc1 0 (by decide)
  have b7 : wr.cell? ⟨lg, i1 * 11 + 7, none⟩ = some (.int .i64 m1_.w) := hc1 7 (by decide)
  have d0 : wr.cell? ⟨lg, i2 * 11, none⟩ = some (.int .i64 m2.t) := hc2 0 (by decide)
  have d7 : wr.cell? ⟨lg, i2 * 11 + 7, none⟩ = some (.int .i64 m2.w) := hc2 7 (by decide)
  unfold maxLen at hlc2
  have HM0 := Lib.hid hm0
  have HM1 := Lib.hid hm1
  have HM2 := Lib.hid hm2
  have K0 := Lib.hid k0
  have K1 := Lib.hid k1
  have K2 := Lib.hid k2
  have hvA : IntKind.i64.wrap r.a = r.a := by have := HOK.out.a; exact IntWalk.i64_in _ (by omega)
  have hvB : IntKind.i64.wrap r.b = r.b := by have := HOK.out.b; exact IntWalk.i64_in _ (by omega)
  have hvC : IntKind.i64.wrap r.c = r.c := by have := HOK.out.c; exact IntWalk.i64_in _ (by omega)
  obtain ⟨oa0, oa1⟩ := HOK.out.a
  obtain ⟨ob0, ob1⟩ := HOK.out.b
  obtain ⟨oc0, oc1⟩ := HOK.out.c
  have g00 : (0 : Int) ≤ (i0 : Int) := by omega
  have g01 : (i0 : Int) < (ms.length : Int) := by omega
  have g10 : (0 : Int) ≤ (i1 : Int) := by omega
  have g11 : (i1 : Int) < (ms.length : Int) := by omega
  have g20 : (0 : Int) ≤ (i2 : Int) := by omega
  have g21 : (i2 : Int) < (ms.length : Int) := by omega
  have hml1 : (1 : Int) ≤ (ms.length : Int) := by omega
  have hz1 : ((ms.length : Int) == 0) = false := by simp; intro e; subst e; simp at hi0
  have hz2 : ¬ ms = [] := fun e => by subst e; simp at hi0
  have hz3 : (decide ((ms.length : Int) = 0)) = false := by simpa using hz2
  clear hm0 hm1 hm2 k0 k1 k2 hc0 hc1 hc2 hLA2 hLB2
  have t1 : (r.op == 1) = false := by simp; omega
  have t2 : (r.op == 2) = false := by simp; omega
  have t3 : (r.op == 3) = false := by simp; omega
  have t4 : (decide (4 ≤ r.op)) = true := by simp; omega
  have t15 : (decide (r.op ≤ 15)) = false := by simp; omega
  have t16 : (r.op == 16) = true := by simpa using ho
  rw [wOf_of HM0.out] at hw0
  rw [wOf_of HM1.out, wOf_of HM2.out] at hw1
  have q1 : (m0.w == 1) = true := by simpa using hw0
  have q1' : (m0.w != 1) = false := by simpa using hw0
  have q2' : (m1_.w != m2.w) = false := by simpa using hw1
  have HW := Lib.hid (And.intro hw0 hw1)
  clear hw0 hw1
  have HO := Lib.hid ho
  clear ho
  have C2 : Hid (Cur W0 ((wr.alloc (.cells #[.int .i64 r.op, .int .i64 r.w, .int .u16 r.val, .int .u8 r.a, .int .u8 r.b, .int .u8 r.c] 35)).alloc (.cells #[.int .i64 0, .int .i64 r.op, .int .i64 r.w, .int .u16 r.val, .int .u8 r.a, .int .u8 r.b, .int .u8 r.c, .int .i64 0, .int .i64 i0, .int .i64 i1, .int .i64 i2] 38)) ab ns (Qm vb wr.heap.size (.slice (some ⟨lg, 0, none⟩) ms.length lcap))) := ((R.out.cur.mine _).mine _).less (fun b hb => by
    rcases hb with hb | hb | hb
    · exact .inl (.inl hb)
    · exact .inl (.inr hb)
    · exact .inr (by simpa using hb))
  have HRB2 : Hid (Has ((wr.alloc (.cells #[.int .i64 r.op, .int .i64 r.w, .int .u16 r.val, .int .u8 r.a, .int .u8 r.b, .int .u8 r.c] 35)).alloc (.cells #[.int .i64 0, .int .i64 r.op, .int .i64 r.w, .int .u16 r.val, .int .u8 r.a, .int .u8 r.b, .int .u8 r.c, .int .i64 0, .int .i64 i0, .int .i64 i1, .int .i64 i2] 38)) wr.heap.size 35 #[.int .i64 r.op, .int .i64 r.w, .int .u16 r.val, .int .u8 r.a, .int .u8 r.b, .int .u8 r.c]) := (Has.new wr 35 #[.int .i64 r.op, .int .i64 r.w, .int .u16 r.val, .int .u8 r.a, .int .u8 r.b, .int .u8 r.c]).same (alloc_other (by simp))
  have HMB2 : Hid (Has ((wr.alloc (.cells #[.int .i64 r.op, .int .i64 r.w, .int .u16 r.val, .int .u8 r.a, .int .u8 r.b, .int .u8 r.c] 35)).alloc (.cells #[.int .i64 0, .int .i64 r.op, .int .i64 r.w, .int .u16 r.val, .int .u8 r.a, .int .u8 r.b, .int .u8 r.c, .int .i64 0, .int .i64 i0, .int .i64 i1, .int .i64 i2] 38)) (wr.heap.size + 1) 38 #[.int .i64 0, .int .i64 r.op, .int .i64 r.w, .int .u16 r.val, .int .u8 r.a, .int .u8 r.b, .int .u8 r.c, .int .i64 0, .int .i64 i0, .int .i64 i1, .int .i64 i2]) := by
    have := Has.new (wr.alloc (.cells #[.int .i64 r.op, .int .i64 r.w, .int .u16 r.val, .int .u8 r.a, .int .u8 r.b, .int .u8 r.c] 35)) 38 #[.int .i64 0, .int .i64 r.op, .int .i64 r.w, .int .u16 r.val, .int .u8 r.a, .int .u8 r.b, .int .u8 r.c, .int .i64 0, .int .i64 i0, .int .i64 i1, .int .i64 i2]
    rw [show (wr.alloc (.cells #[.int .i64 r.op, .int .i64 r.w, .int .u16 r.val, .int .u8 r.a, .int .u8 r.b, .int .u8 r.c] 35)).heap.size = wr.heap.size + 1 by simp] at this
    exact this
  have HVB2 : Hid (Has ((wr.alloc (.cells #[.int .i64 r.op, .int .i64 r.w, .int .u16 r.val, .int .u8 r.a, .int .u8 r.b, .int .u8 r.c] 35)).alloc (.cells #[.int .i64 0, .int .i64 r.op, .int .i64 r.w, .int .u16 r.val, .int .u8 r.a, .int .u8 r.b, .int .u8 r.c, .int .i64 0, .int .i64 i0, .int .i64 i1, .int .i64 i2] 38)) vb 62 (va vs)) := (R.out.hv.same (alloc_other R.out.hv.lt)).same (alloc_other (by have := R.out.hv.lt; simp; omega))
  have HROW2 : Hid (((wr.alloc (.cells #[.int .i64 r.op, .int .i64 r.w, .int .u16 r.val, .int .u8 r.a, .int .u8 r.b, .int .u8 r.c] 35)).alloc (.cells #[.int .i64 0, .int .i64 r.op, .int .i64 r.w, .int .u16 r.val, .int .u8 r.a, .int .u8 r.b, .int .u8 r.c, .int .i64 0, .int .i64 i0, .int .i64 i1, .int .i64 i2] 38)).ownsRow W0.heap.size 38 11 (.slice (some ⟨lg, 0, none⟩) ms.length lcap) ms.length (mdCells ms)) := row_same R.out.row (fun b hb => by
    obtain ⟨cur, hc⟩ := row_block R.out.row hb
    exact (alloc_other (by have := hc.lt; simp; omega)).trans (alloc_other hc.lt))
  have hne1 : vb ≠ wr.heap.size := by omega
  have hne2 : vb ≠ wr.heap.size + 1 := by omega
  conv => arg 2; whnf
  go_wp2_with fail
  go_region_held3 (fun w' => w'.cell? ⟨wr.heap.size, 3, none⟩ = some (.int .u8 r.a) ∧ w'.cell? ⟨wr.heap.size, 4, none⟩ = some (.int .u8 r.b) ∧ w'.cell? ⟨wr.heap.size, 5, none⟩ = some (.int .u8 r.c)) (go_keep) (fail)
  go_wp2_with fail
  go_quiet (fail)
  go_wp2_with fail
  go_quiet (fail)
  go_wp2_with fail
  refine (l_ite W0 _ ab ns (Qm vb wr.heap.size (.slice (some ⟨lg, 0, none⟩) ms.length lcap)) m0.t m1_.t m2.t (by exact C2.out.alike rfl rfl rfl rfl) (by have := R.out.nl; omega) K0.out.t K1.out.t K2.out.t (K0.out.w.trans HW.out.1) (K2.out.w.trans (HW.out.2.symm.trans K1.out.w.symm))).mono ?_
  rintro e w3 ⟨x, ns3, rfl, N3, hx3⟩
  have C3 := Lib.hid N3.cur
  have HTW : Hid (wdt ns3 x = m1_.w) := hx3.w.trans K1.out.w
  have HMOK := Lib.hid (R.out.mok.ext N3)
  have HVOK := Lib.hid (R.out.vok.ext N3.ext hx3.n)
  have HNL : Hid (ns3.length ≤ k + 1) := by have := N3.len; have := R.out.nl; show ns3.length ≤ k + 1; omega
  have HMD : Hid (MdOk ns3 ms ms.length ⟨x, r, m1_.w, i0, i1, i2⟩) := by
    refine ⟨hx3.t, HTW.out, by show 1 ≤ r.op; have := HO.out; omega, by show r.op ≤ 18; have := HO.out; omega, HOK.out, fun _ => ⟨hi0, hi1, hi2⟩, fun env => ?_⟩
    show V ns3 env x = _
    rw [hx3.v, tOf_of HM0.out, tOf_of HM1.out, tOf_of HM2.out, wOf_of HM0.out, N3.V env K0.out.t, N3.V env K1.out.t, N3.V env K2.out.t]
    unfold lv
    simp only [HO.out]
    rfl
  have HMB3 : Hid (Has w3 (wr.heap.size + 1) 38 #[.int .i64 0, .int .i64 r.op, .int .i64 r.w, .int .u16 r.val, .int .u8 r.a, .int .u8 r.b, .int .u8 r.c, .int .i64 0, .int .i64 i0, .int .i64 i1, .int .i64 i2]) := HMB2.out.same (N3.q _ (.inr (.inr rfl)))
  have HRB3 : Hid (Has w3 wr.heap.size 35 #[.int .i64 r.op, .int .i64 r.w, .int .u16 r.val, .int .u8 r.a, .int .u8 r.b, .int .u8 r.c]) := HRB2.out.same (N3.q _ (.inr (.inl rfl)))
  have HVB3 : Hid (Has w3 vb 62 (va vs)) := HVB2.out.same (N3.q _ (.inl (.inl rfl)))
  have HROW3 : Hid (w3.ownsRow W0.heap.size 38 11 (.slice (some ⟨lg, 0, none⟩) ms.length lcap) ms.length (mdCells ms)) := row_same HROW2.out (fun b hb => N3.q _ (.inl (.inr hb)))
  have z0 : w3.cell? ⟨wr.heap.size + 1, 0, none⟩ = some (.int .i64 0) := HMB3.out.cell 0
  have z1 : w3.cell? ⟨wr.heap.size + 1, 1, none⟩ = some (.int .i64 r.op) := HMB3.out.cell 1
  have z2 : w3.cell? ⟨wr.heap.size + 1, 2, none⟩ = some (.int .i64 r.w) := HMB3.out.cell 2
  have z3 : w3.cell? ⟨wr.heap.size + 1, 3, none⟩ = some (.int .u16 r.val) := HMB3.out.cell 3
  have z4 : w3.cell? ⟨wr.heap.size + 1, 4, none⟩ = some (.int .u8 r.a) := HMB3.out.cell 4
  have z5 : w3.cell? ⟨wr.heap.size + 1, 5, none⟩ = some (.int .u8 r.b) := HMB3.out.cell 5
  have z6 : w3.cell? ⟨wr.heap.size + 1, 6, none⟩ = some (.int .u8 r.c) := HMB3.out.cell 6
  have z7 : w3.cell? ⟨wr.heap.size + 1, 7, none⟩ = some (.int .i64 0) := HMB3.out.cell 7
  have z8 : w3.cell? ⟨wr.heap.size + 1, 8, none⟩ = some (.int .i64 i0) := HMB3.out.cell 8
  have z9 : w3.cell? ⟨wr.heap.size + 1, 9, none⟩ = some (.int .i64 i1) := HMB3.out.cell 9
  have z10 : w3.cell? ⟨wr.heap.size + 1, 10, none⟩ = some (.int .i64 i2) := HMB3.out.cell 10
  have zfr : ∀ i, w3.frozen? ⟨wr.heap.size + 1, i, none⟩ = false := HMB3.out.free
  have rr0 : w3.cell? ⟨wr.heap.size, 0, none⟩ = some (.int .i64 r.op) := HRB3.out.cell 0
  have rr1 : w3.cell? ⟨wr.heap.size, 1, none⟩ = some (.int .i64 r.w) := HRB3.out.cell 1
  have rr2 : w3.cell? ⟨wr.heap.size, 2, none⟩ = some (.int .u16 r.val) := HRB3.out.cell 2
  clear N3 hx3
  have C4 : Hid (Cur W0 ((w3.setCell ⟨wr.heap.size + 1, 0, none⟩ (.int .i64 x)).setCell ⟨wr.heap.size + 1, 7, none⟩ (.int .i64 m1_.w)) ab ns3 (Qm vb wr.heap.size (.slice (some ⟨lg, 0, none⟩) ms.length lcap))) := ((C3.out.store (p := ⟨wr.heap.size + 1, 0, none⟩) (.inr (.inr rfl)) (by have := R.out.cur.below0.size; show W0.heap.size ≤ wr.heap.size + 1; omega) (.int .i64 x)).store (p := ⟨wr.heap.size + 1, 7, none⟩) (.inr (.inr rfl)) (by have := R.out.cur.below0.size; show W0.heap.size ≤ wr.heap.size + 1; omega) (.int .i64 m1_.w))
  have HMB4 : Hid (Has ((w3.setCell ⟨wr.heap.size + 1, 0, none⟩ (.int .i64 x)).setCell ⟨wr.heap.size + 1, 7, none⟩ (.int .i64 m1_.w)) (wr.heap.size + 1) 38 #[.int .i64 x, .int .i64 r.op, .int .i64 r.w, .int .u16 r.val, .int .u8 r.a, .int .u8 r.b, .int .u8 r.c, .int .i64 m1_.w, .int .i64 i0, .int .i64 i1, .int .i64 i2]) := ((HMB3.out.put 0 (.int .i64 x)).put 7 (.int .i64 m1_.w))
  have HVB4 : Hid (Has ((w3.setCell ⟨wr.heap.size + 1, 0, none⟩ (.int .i64 x)).setCell ⟨wr.heap.size + 1, 7, none⟩ (.int .i64 m1_.w)) vb 62 (va vs)) := HVB3.out.same ((set_other (p := ⟨wr.heap.size + 1, 7, none⟩) hne2).trans (set_other (p := ⟨wr.heap.size + 1, 0, none⟩) hne2))
  have HROW4 : Hid (((w3.setCell ⟨wr.heap.size + 1, 0, none⟩ (.int .i64 x)).setCell ⟨wr.heap.size + 1, 7, none⟩ (.int .i64 m1_.w)).ownsRow W0.heap.size 38 11 (.slice (some ⟨lg, 0, none⟩) ms.length lcap) ms.length (mdCells ms)) := row_same HROW3.out (fun b hb => by
    have hb2 : lg = b := by simpa [Value.ownBlock] using hb
    have hne : b ≠ wr.heap.size + 1 := by omega
    exact ((set_other (p := ⟨wr.heap.size + 1, 7, none⟩) hne).trans (set_other (p := ⟨wr.heap.size + 1, 0, none⟩) hne)))
  have HWD := fun (W : World) (C : Cur W0 W ab ns3 (Qm vb wr.heap.size (.slice (some ⟨lg, 0, none⟩) ms.length lcap))) => Lib.hid (r_width C x)
  rw [HTW.out] at HWD
  go_wp2_with (fail)
  have q0 : ((w3.setCell ⟨wr.heap.size + 1, 0, none⟩ (.int .i64 x)).setCell ⟨wr.heap.size + 1, 7, none⟩ (.int .i64 m1_.w)).cell? ⟨wr.heap.size + 1, 0, none⟩ = some (.int .i64 x) := HMB4.out.cell 0
  have q7 : ((w3.setCell ⟨wr.heap.size + 1, 0, none⟩ (.int .i64 x)).setCell ⟨wr.heap.size + 1, 7, none⟩ (.int .i64 m1_.w)).cell? ⟨wr.heap.size + 1, 7, none⟩ = some (.int .i64 m1_.w) := HMB4.out.cell 7
  go_region_held3 (fun w' => w'.cell? ⟨wr.heap.size + 1, 0, none⟩ = some (.int .i64 x) ∧ w'.cell? ⟨wr.heap.size + 1, 7, none⟩ = some (.int .i64 m1_.w)) (go_keep) (first | (go_at_call 14; refine (HWD _ (by exact C4.out.alike rfl rfl rfl rfl)).out.mono ?_; rintro e w5 ⟨rfl, hb5⟩; have C5 := Lib.hid (Cur.below (by exact C4.out.alike rfl rfl rfl rfl) hb5); have HMB5 : Hid (Has w5 (wr.heap.size + 1) 38 #[.int .i64 x, .int .i64 r.op, .int .i64 r.w, .int .u16 r.val, .int .u8 r.a, .int .u8 r.b, .int .u8 r.c, .int .i64 m1_.w, .int .i64 i0, .int .i64 i1, .int .i64 i2]) := (HMB4.out.same (by exact hb5.block _ HMB4.out.lt)); have HVB5 : Hid (Has w5 vb 62 (va vs)) := (HVB4.out.same (by exact hb5.block _ HVB4.out.lt)); have HROW5 : Hid (w5.ownsRow W0.heap.size 38 11 (.slice (some ⟨lg, 0, none⟩) ms.length lcap) ms.length (mdCells ms)) := (row_same HROW4.out (fun b hb => by (obtain ⟨cur, hc⟩ := row_block HROW4.out hb; exact hb5.block _ hc.lt))); have y0 : w5.cell? ⟨wr.heap.size + 1, 0, none⟩ = some (.int .i64 x) := HMB5.out.cell 0; have y1 : w5.cell? ⟨wr.heap.size + 1, 1, none⟩ = some (.int .i64 r.op) := HMB5.out.cell 1; have y2 : w5.cell? ⟨wr.heap.size + 1, 2, none⟩ = some (.int .i64 r.w) := HMB5.out.cell 2; have y3 : w5.cell? ⟨wr.heap.size + 1, 3, none⟩ = some (.int .u16 r.val) := HMB5.out.cell 3; have y4 : w5.cell? ⟨wr.heap.size + 1, 4, none⟩ = some (.int .u8 r.a) := HMB5.out.cell 4; have y5 : w5.cell? ⟨wr.heap.size + 1, 5, none⟩ = some (.int .u8 r.b) := HMB5.out.cell 5; have y6 : w5.cell? ⟨wr.heap.size + 1, 6, none⟩ = some (.int .u8 r.c) := HMB5.out.cell 6; have y7 : w5.cell? ⟨wr.heap.size + 1, 7, none⟩ = some (.int .i64 m1_.w) := HMB5.out.cell 7; have y8 : w5.cell? ⟨wr.heap.size + 1, 8, none⟩ = some (.int .i64 i0) := HMB5.out.cell 8; have y9 : w5.cell? ⟨wr.heap.size + 1, 9, none⟩ = some (.int .i64 i1) := HMB5.out.cell 9; have y10 : w5.cell? ⟨wr.heap.size + 1, 10, none⟩ = some (.int .i64 i2) := HMB5.out.cell 10; have hsz5 : W0.heap.size ≤ w5.heap.size := C5.out.below0.size; clear hb5))
  obtain ⟨iM, hi, hz0, hz1', hz2'⟩ := info_parts infoMade
  have HI := Lib.hid (And.intro hi (And.intro hz0 (And.intro hz1' hz2')))
  clear hi hz0 hz1' hz2'
  go_wp2_with (at_builtin; refine wpList_append_lies _ rfl _ _ _ rfl W0.heap.size 38 iM _ 11 64 Tryd.underlying28 HI.out.1 HI.out.2.1 HI.out.2.2.1 HI.out.2.2.2 rfl (by omega) (.slice (some ⟨lg, 0, none⟩) ms.length lcap) ms.length (mdCells ms) rfl (by exact row_alike (HROW5.out.alloc _) rfl) ⟨w5.heap.size, 0, none⟩ 1 1 (⟨x, r, m1_.w, i0, i1, i2⟩ : Md).v rfl rfl (by exact World.news_of_block (cs := #[.int .i64 x, .int .i64 r.op, .int .i64 r.w, .int .u16 r.val, .int .u8 r.a, .int .u8 r.b, .int .u8 r.c, .int .i64 m1_.w, .int .i64 i0, .int .i64 i1, .int .i64 i2]) (t := 38) (fr := (0, 0)) (new_at (W := w5) rfl rfl)) (by simp [Md.v, Value.oneCell']) (by omega) (by unfold maxLen; omega) (by omega) (by simp; omega) (w5.heap.size + 1) (by simp) ?_; intro g6 cap6 w6 hown6 hg6 hat6 hlt6; have HO6 := Lib.hid hown6; have HG6 : Hid ((w5.alloc (.cells #[.int .i64 x, .int .i64 r.op, .int .i64 r.w, .int .u16 r.val, .int .u8 r.a, .int .u8 r.b, .int .u8 r.c, .int .i64 m1_.w, .int .i64 i0, .int .i64 i1, .int .i64 i2] 38)).grownBy w6 (some lg)) := ⟨hg6.os, hg6.tape, hg6.output, hg6.size, hg6.block⟩; have HAT := Lib.hid hat6; clear hown6 hg6 hat6)
  refine ⟨⟨k + 1, ns3, ms ++ [(⟨x, r, m1_.w, i0, i1, i2⟩ : Md)], vs, (.slice (some ⟨g6, 0, none⟩) (ms.length + 1) cap6), by omega, rfl, rfl, rfl, rfl, rfl, rfl, by first | rfl | (show some (Value.int .i64 _) = _; simp), ?_⟩, by simp [Wmu, intOf]; omega⟩
  have hlgW : W0.heap.size ≤ lg := hlb
  refine ⟨(C5.out.alloc _).grown2 HG6.out (fun b hb => ?_) (fun b hb => ?_), ?_, HVOK.out, ?_, HMOK.out.snoc HMD.out, by have := HNL.out; omega, by simp; omega, R.out.vge⟩
  · injection hb with hb; subst hb; exact ⟨.inl (.inr rfl), hlgW⟩
  · rcases hb with hb | hb
    · exact .inl (.inl (.inl hb))
    · have hb' : g6 = b := by simpa [Value.ownBlock] using hb
      subst hb'
      rcases HAT.out with e | e
      · have : lg = g6 := by simpa [Value.ownBlock] using e
        exact .inl (.inl (.inr (by rw [this]; rfl)))
      · exact .inr ⟨by simp; omega, hlt6⟩
  · have hv5 := HVB5.out
    refine (hv5.same (w' := w5.alloc (.cells #[.int .i64 x, .int .i64 r.op, .int .i64 r.w, .int .u16 r.val, .int .u8 r.a, .int .u8 r.b, .int .u8 r.c, .int .i64 m1_.w, .int .i64 i0, .int .i64 i1, .int .i64 i2] 38)) (alloc_other hv5.lt)).same (HG6.out.block _ (by have := hv5.lt; simp; omega) (fun e => ?_))
    injection e with e
    obtain ⟨cur, hc⟩ := row_block HROW5.out (g := lg) rfl
    exact hc.unlike hv5 (by decide) e.symm
  · have := HO6.out
    rw [show (ms ++ [(⟨x, r, m1_.w, i0, i1, i2⟩ : Md)]).length = ms.length + 1 by simp, mdCells_snoc]
    exact this

set_option maxHeartbeats 8000000 in
set_option maxRecDepth 1000000 in
theorem bext (W0 wr : World) (ab vb k cap lcap g off : Nat) (LA : Option Addr) (rs : List Rw) (r : Rw) (ns : List Nd) (ms : List Md) (vs : List Int) (u : Nat → Value) (Q0 : Exit → Act → World → Prop)
    (hrel : BRel W0 wr ab vb k (.slice LA ms.length lcap) ns ms vs) (hR : RowsAt W0 (some ⟨g, off, none⟩) rs) (hgW : g < W0.heap.size) (hr : rs[k]? = some r) (hn : rs.length ≤ 200) (hcap : rs.length ≤ cap) (hcap2 : cap ≤ 9223372036854775807) (i0 i1 i2 : Nat) (hi0 : i0 < ms.length) (hi1 : i1 < ms.length) (hi2 : i2 < ms.length) (e0 : r.a.tmod (ms.length : Int) = (i0 : Int)) (e1 : r.b.tmod (ms.length : Int) = (i1 : Int)) (e2 : r.c.tmod (ms.length : Int) = (i2 : Int)) (ho : r.op = 17) (hw : mayw r.w) (hw0 : wOf ms i0 ≤ r.w) :
    Code.wp Tryd.prog bbody (Exit.then (fun a' w'' => WI W0 ab vb cap (some ⟨g, off, none⟩) rs a' w'' ∧ Wmu rs.length a' < Wmu rs.length ⟨#[ptr ab, .slice (some ⟨g, off, none⟩) rs.length cap, u 2, u 3, u 4, u 5, .slice LA ms.length lcap, ptr vb, .int .i64 k, u 9, u 10, u 11, u 12, u 13, u 14, u 15, u 16, u 17, u 18, u 19, u 20, u 21, u 22, u 23, u 24, u 25, u 26, u 27, u 28, u 29, u 30, u 31, u 32, u 33, u 34, u 35, u 36, u 37, u 38, u 39, u 40, u 41, u 42, u 43, u 44, u 45, u 46, u 47, u 48, u 49, u 50, u 51, u 52, u 53, u 54, u 55, u 56, u 57, u 58, u 59, u 60, u 61, u 62, u 63, u 64, u 65, u 66, u 67, u 68, u 69, u 70, u 71, u 72, u 73, u 74, u 75, u 76, u 77, u 78, u 79, u 80, u 81, u 82, u 83, u 84, u 85, u 86, u 87, u 88, u 89, u 90, u 91, u 92, u 93, u 94, u 95, u 96, u 97, u 98, u 99, u 100, u 101, u 102, u 103, u 104, u 105, u 106, u 107, u 108, u 109, u 110, u 111, u 112, u 113, u 114, u 115, u 116, u 117, u 118, u 119, u 120, u 121, u 122, u 123, u 124, u 125, u 126, u 127, u 128, u 129, u 130, u 131, u 132, u 133, u 134, u 135, u 136, u 137, u 138, u 139, u 140, u 141, u 142, u 143, u 144, u 145, u 146, u 147, u 148, u 149, u 150, u 151, u 152, u 153, u 154, u 155, u 156, u 157, u 158, u 159, u 160, u 161, u 162, u 163, u 164, u 165, u 166, u 167, u 168, u 169, u 170, u 171, u 172, u 173, u 174, u 175, u 176, u 177, u 178, u 179, u 180, u 181, u 182, u 183, u 184, u 185, u 186, u 187, u 188, u 189, u 190, u 191, u 192, u 193, u 194, u 195, u 196, u 197, u 198, u 199, u 200, u 201, u 202, u 203, u 204, u 205, u 206, u 207, u 208, u 209, u 210, u 211, u 212, u 213, u 214, u 215, u 216, u 217, u 218, u 219, u 220, u 221, u 222, u 223, u 224, u 225, u 226, u 227, u 228, u 229, u 230, u 231, u 232, u 233, u 234, u 235, u 236, u 237, u 238, u 239, u 240, u 241, u 242, u 243, u 244, u 245, u 246, u 247, u 248, u 249, u 250, u 251, u 252, u 253, u 254, u 255, u 256, u 257, u 258, u 259, u 260, u 261, u 262, u 263, u 264, u 265, u 266, u 267, u 268, u 269, u 270, u 271, u 272, u 273, u 274, u 275, u 276, u 277, u 278, u 279, u 280, u 281, u 282, u 283, u 284, u 285, u 286, u 287, u 288, u 289, u 290, u 291, u 292, u 293, u 294, u 295, u 296, u 297, u 298, u 299, u 300, u 301, u 302, u 303, u 304, u 305, u 306, u 307, u 308, u 309, u 310, u 311, u 312, u 313, u 314, u 315, u 316, u 317, u 318, u 319, u 320, u 321, u 322, u 323, u 324], []⟩) Q0) ⟨#[ptr ab, .slice (some ⟨g, off, none⟩) rs.length cap, u 2, u 3, u 4, u 5, .slice LA ms.length lcap, ptr vb, .int .i64 k, u 9, u 10, u 11, u 12, u 13, u 14, u 15, u 16, u 17, u 18, u 19, u 20, u 21, u 22, u 23, u 24, u 25, u 26, u 27, u 28, u 29, u 30, u 31, u 32, u 33, u 34, u 35, u 36, u 37, u 38, u 39, u 40, u 41, u 42, u 43, u 44, u 45, u 46, u 47, u 48, u 49, u 50, u 51, u 52, u 53, u 54, u 55, u 56, u 57, u 58, u 59, u 60, u 61, u 62, u 63, u 64, u 65, u 66, u 67, u 68, u 69, u 70, u 71, u 72, u 73, u 74, u 75, u 76, u 77, u 78, u 79, u 80, u 81, u 82, u 83, u 84, u 85, u 86, u 87, u 88, u 89, u 90, u 91, u 92, u 93, u 94, u 95, u 96, u 97, u 98, u 99, u 100, u 101, u 102, u 103, u 104, u 105, u 106, u 107, u 108, u 109, u 110, u 111, u 112, u 113, u 114, u 115, u 116, u 117, u 118, u 119, u 120, u 121, u 122, u 123, u 124, u 125, u 126, u 127, u 128, u 129, u 130, u 131, u 132, u 133, u 134, u 135, u 136, u 137, u 138, u 139, u 140, u 141, u 142, u 143, u 144, u 145, u 146, u 147, u 148, u 149, u 150, u 151, u 152, u 153, u 154, u 155, u 156, u 157, u 158, u 159, u 160, u 161, u 162, u 163, u 164, u 165, u 166, u 167, u 168, u 169, u 170, u 171, u 172, u 173, u 174, u 175, u 176, u 177, u 178, u 179, u 180, u 181, u 182, u 183, u 184, u 185, u 186, u 187, u 188, u 189, u 190, u 191, u 192, u 193, u 194, u 195, u 196, u 197, u 198, u 199, u 200, u 201, u 202, u 203, u 204, u 205, u 206, u 207, u 208, u 209, u 210, u 211, u 212, u 213, u 214, u 215, u 216, u 217, u 218, u 219, u 220, u 221, u 222, u 223, u 224, u 225, u 226, u 227, u 228, u 229, u 230, u 231, u 232, u 233, u 234, u 235, u 236, u 237, u 238, u 239, u 240, u 241, u 242, u 243, u 244, u 245, u 246, u 247, u 248, u 249, u 250, u 251, u 252, u 253, u 254, u 255, u 256, u 257, u 258, u 259, u 260, u 261, u 262, u 263, u 264, u 265, u 266, u 267, u 268, u 269, u 270, u 271, u 272, u 273, u 274, u 275, u 276, u 277, u 278, u 279, u 280, u 281, u 282, u 283, u 284, u 285, u 286, u 287, u 288, u 289, u 290, u 291, u 292, u 293, u 294, u 295, u 296, u 297, u 298, u 299, u 300, u 301, u 302, u 303, u 304, u 305, u 306, u 307, u 308, u 309, u 310, u 311, u 312, u 313, u 314, u 315, u 316, u 317, u 318, u 319, u 320, u 321, u 322, u 323, u 324], []⟩ wr := by
  have hlt : k < rs.length := (List.getElem?_eq_some_iff.1 hr).1
  have hgl : g < wr.heap.size := Nat.lt_of_lt_of_le hgW hrel.cur.below0.size
  have hvbl : vb < wr.heap.size := hrel.hv.lt
  have hok := hR.ok r (List.mem_of_getElem? hr)
  have key : ∀ j, j < 6 → wr.cell? ⟨g, off + k * 6 + j, none⟩ = r.v[j]? := fun j hj => by
    obtain ⟨g', off', hA, _, hc⟩ := hR.get k r hr
    injection hA with hA
    injection hA with h1 h2
    subst h1; subst h2
    exact (hrel.cur.below0.cell (p := ⟨g, off + k * 6 + j, none⟩) hgW).trans (hc j hj)
  have r0 : wr.cell? ⟨g, off + k * 6, none⟩ = some (.int .i64 r.op) := key 0 (by decide)
  have r1 : wr.cell? ⟨g, off + k * 6 + 1, none⟩ = some (.int .i64 r.w) := key 1 (by decide)
  have r2 : wr.cell? ⟨g, off + k * 6 + 2, none⟩ = some (.int .u16 r.val) := key 2 (by decide)
  have r3 : wr.cell? ⟨g, off + k * 6 + 3, none⟩ = some (.int .u8 r.a) := key 3 (by decide)
  have r4 : wr.cell? ⟨g, off + k * 6 + 4, none⟩ = some (.int .u8 r.b) := key 4 (by decide)
  have r5 : wr.cell? ⟨g, off + k * 6 + 5, none⟩ = some (.int .u8 r.c) := key 5 (by decide)
  have hml := hrel.ml
  have zm := zero_made
  have R := Lib.hid hrel
  have HOK := Lib.hid hok
  clear hrel hR hr key hok
  obtain ⟨m0, hm0, k0⟩ := R.out.mok.at_ (show i0 < ms.length by omega)
  obtain ⟨m1_, hm1, k1⟩ := R.out.mok.at_ (show i1 < ms.length by omega)
  obtain ⟨m2, hm2, k2⟩ := R.out.mok.at_ (show i2 < ms.length by omega)
  obtain ⟨lg, lc, hLA, hlg, hlb, hlc1, hlc2, hc0⟩ := row_md R.out.row hm0
  injection hLA with hLA1 hLA2 hLA3
  subst hLA1; subst hLA3
  obtain ⟨lg', lc', hLB, _, _, _, _, hc1⟩ := row_md R.out.row hm1
  injection hLB with hLB1 hLB2 hLB3
  injection hLB1 with hLB1
  injection hLB1 with hLB1 _
  subst hLB1; subst hLB3
  obtain ⟨lg'', lc'', hLB, _, _, _, _, hc2⟩ := row_md R.out.row hm2
  injection hLB with hLB1 hLB2 hLB3
  injection hLB1 with hLB1
  injection hLB1 with hLB1 _
  subst hLB1; subst hLB3
  have a0 : wr.cell? ⟨lg, i0 * 11, none⟩ = some (.int .i64 m0.t) := hc0 0 (by decide)
  have a7 : wr.cell? ⟨lg, i0 * 11 + 7, none⟩ = some (.int .i64 m0.w) := hc0 7 (by decide)
  have b0 : wr.cell? ⟨lg, i1 * 11, none⟩ = some (.int .i64 m1_.t) := hc1 0 (by decide)
  have b7 : wr.cell? ⟨lg, i1 * 11 + 7, none⟩ = some (.int .i64 m1_.w) := hc1 7 (by decide)
  have d0 : wr.cell? ⟨lg, i2 * 11, none⟩ = some (.int .i64 m2.t) := hc2 0 (by decide)
  have d7 : wr.cell? ⟨lg, i2 * 11 + 7, none⟩ = some (.int .i64 m2.w) := hc2 7 (by decide)
  unfold maxLen at hlc2
  have HM0 := Lib.hid hm0
  have HM1 := Lib.hid hm1
  have HM2 := Lib.hid hm2
  have K0 := Lib.hid k0
  have K1 := Lib.hid k1
  have K2 := Lib.hid k2
  have hvA : IntKind.i64.wrap r.a = r.a := by have := HOK.out.a; exact IntWalk.i64_in _ (by omega)
  have hvB : IntKind.i64.wrap r.b = r.b := by have := HOK.out.b; exact IntWalk.i64_in _ (by omega)
  have hvC : IntKind.i64.wrap r.c = r.c := by have := HOK.out.c; exact IntWalk.i64_in _ (by omega)
  obtain ⟨oa0, oa1⟩ := HOK.out.a
  obtain ⟨ob0, ob1⟩ := HOK.out.b
  obtain ⟨oc0, oc1⟩ := HOK.out.c
  have g00 : (0 : Int) ≤ (i0 : Int) := by omega
  have g01 : (i0 : Int) < (ms.length : Int) := by omega
  have g10 : (0 : Int) ≤ (i1 : Int) := by omega
  have g11 : (i1 : Int) < (ms.length : Int) := by omega
  have g20 : (0 : Int) ≤ (i2 : Int) := by omega
  have g21 : (i2 : Int) < (ms.length : Int) := by omega
  have hml1 : (1 : Int) ≤ (ms.length : Int) := by omega
  have hz1 : ((ms.length : Int) == 0) = false := by simp; intro e; subst e; simp at hi0
  have hz2 : ¬ ms = [] := fun e => by subst e; simp at hi0
  have hz3 : (decide ((ms.length : Int) = 0)) = false := by simpa using hz2
  clear hm0 hm1 hm2 k0 k1 k2 hc0 hc1 hc2 hLA2 hLB2
  have t1 : (r.op == 1) = false := by simp; omega
  have t2 : (r.op == 2) = false := by simp; omega
  have t3 : (r.op == 3) = false := by simp; omega
  have t16 : (r.op == 16) = false := by simp; omega
  have t4 : (decide (4 ≤ r.op)) = true := by simp; omega
  have t15 : (decide (r.op ≤ 15)) = false := by simp; omega
  have t17 : (r.op == 17) = true := by simpa using ho
  rw [wOf_of HM0.out] at hw0
  have q1 : (decide (r.w < m0.w)) = false := by simp; omega
  have HW := Lib.hid (And.intro hw hw0)
  clear hw hw0
  have HO := Lib.hid ho
  clear ho
  have C2 : Hid (Cur W0 ((wr.alloc (.cells #[.int .i64 r.op, .int .i64 r.w, .int .u16 r.val, .int .u8 r.a, .int .u8 r.b, .int .u8 r.c] 35)).alloc (.cells #[.int .i64 0, .int .i64 r.op, .int .i64 r.w, .int .u16 r.val, .int .u8 r.a, .int .u8 r.b, .int .u8 r.c, .int .i64 0, .int .i64 i0, .int .i64 i1, .int .i64 i2] 38)) ab ns (Qm vb wr.heap.size (.slice (some ⟨lg, 0, none⟩) ms.length lcap))) := ((R.out.cur.mine _).mine _).less (fun b hb => by
    rcases hb with hb | hb | hb
    · exact .inl (.inl hb)
    · exact .inl (.inr hb)
    · exact .inr (by simpa using hb))
  have HRB2 : Hid (Has ((wr.alloc (.cells #[.int .i64 r.op, .int .i64 r.w, .int .u16 r.val, .int .u8 r.a, .int .u8 r.b, .int .u8 r.c] 35)).alloc (.cells #[.int .i64 0, .int .i64 r.op, .int .i64 r.w, .int .u16 r.val, .int .u8 r.a, .int .u8 r.b, .int .u8 r.c, .int .i64 0, .int .i64 i0, .int .i64 i1, .int .i64 i2] 38)) wr.heap.size 35 #[.int .i64 r.op, .int .i64 r.w, .int .u16 r.val, .int .u8 r.a, .int .u8 r.b, .int .u8 r.c]) := (Has.new wr 35 #[.int .i64 r.op, .int .i64 r.w, .int .u16 r.val, .int .u8 r.a, .int .u8 r.b, .int .u8 r.c]).same (alloc_other (by simp))
  have HMB2 : Hid (Has ((wr.alloc (.cells #[.int .i64 r.op, .int .i64 r.w, .int .u16 r.val, .int .u8 r.a, .int .u8 r.b, .int .u8 r.c] 35)).alloc (.cells #[.int .i64 0, .int .i64 r.op, .int .i64 r.w, .int .u16 r.val, .int .u8 r.a, .int .u8 r.b, .int .u8 r.c, .int .i64 0, .int .i64 i0, .int .i64 i1, .int .i64 i2] 38)) (wr.heap.size + 1) 38 #[.int .i64 0, .int .i64 r.op, .int .i64 r.w, .int .u16 r.val, .int .u8 r.a, .int .u8 r.b, .int .u8 r.c, .int .i64 0, .int .i64 i0, .int .i64 i1, .int .i64 i2]) := by
    have := Has.new (wr.alloc (.cells #[.int .i64 r.op, .int .i64 r.w, .int .u16 r.val, .int .u8 r.a, .int .u8 r.b, .int .u8 r.c] 35)) 38 #[.int .i64 0, .int .i64 r.op, .int .i64 r.w, .int .u16 r.val, .int .u8 r.a, .int .u8 r.b, .int .u8 r.c, .int .i64 0, .int .i64 i0, .int .i64 i1, .int .i64 i2]
    rw [show (wr.alloc (.cells #[.int .i64 r.op, .int .i64 r.w, .int .u16 r.val, .int .u8 r.a, .int .u8 r.b, .int .u8 r.c] 35)).heap.size = wr.heap.size + 1 by simp] at this
    exact this
  have HVB2 : Hid (Has ((wr.alloc (.cells #[.int .i64 r.op, .int .i64 r.w, .int .u16 r.val, .int .u8 r.a, .int .u8 r.b, .int .u8 r.c] 35)).alloc (.cells #[.int .i64 0, .int .i64 r.op, .int .i64 r.w, .int .u16 r.val, .int .u8 r.a, .int .u8 r.b, .int .u8 r.c, .int .i64 0, .int .i64 i0, .int .i64 i1, .int .i64 i2] 38)) vb 62 (va vs)) := (R.out.hv.same (alloc_other R.out.hv.lt)).same (alloc_other (by have := R.out.hv.lt; simp; omega))
  have HROW2 : Hid (((wr.alloc (.cells #[.int .i64 r.op, .int .i64 r.w, .int .u16 r.val, .int .u8 r.a, .int .u8 r.b, .int .u8 r.c] 35)).alloc (.cells #[.int .i64 0, .int .i64 r.op, .int .i64 r.w, .int .u16 r.val, .int .u8 r.a, .int .u8 r.b, .int .u8 r.c, .int .i64 0, .int .i64 i0, .int .i64 i1, .int .i64 i2] 38)).ownsRow W0.heap.size 38 11 (.slice (some ⟨lg, 0, none⟩) ms.length lcap) ms.length (mdCells ms)) := row_same R.out.row (fun b hb => by
    obtain ⟨cur, hc⟩ := row_block R.out.row hb
    exact (alloc_other (by have := hc.lt; simp; omega)).trans (alloc_other hc.lt))
  have hne1 : vb ≠ wr.heap.size := by omega
  have hne2 : vb ≠ wr.heap.size + 1 := by omega
  conv => arg 2; whnf
  go_wp2_with fail
  go_region_held3 (fun w' => w'.cell? ⟨wr.heap.size, 3, none⟩ = some (.int .u8 r.a) ∧ w'.cell? ⟨wr.heap.size, 4, none⟩ = some (.int .u8 r.b) ∧ w'.cell? ⟨wr.heap.size, 5, none⟩ = some (.int .u8 r.c)) (go_keep) (fail)
  go_wp2_with fail
  go_quiet (fail)
  go_wp2_with fail
  go_quiet (fail)
  go_wp2_with fail
  refine (l_ext W0 _ ab ns (Qm vb wr.heap.size (.slice (some ⟨lg, 0, none⟩) ms.length lcap)) r.w m0.t (by exact C2.out.alike rfl rfl rfl rfl) (by have := R.out.nl; omega) HW.out.1 K0.out.t (by rw [K0.out.w]; exact HW.out.2)).mono ?_
  rintro e w3 ⟨x, ns3, rfl, N3, hx3⟩
  have C3 := Lib.hid N3.cur
  have HTW : Hid (wdt ns3 x = r.w) := hx3.w
  have HMOK := Lib.hid (R.out.mok.ext N3)
  have HVOK := Lib.hid (R.out.vok.ext N3.ext hx3.n)
  have HNL : Hid (ns3.length ≤ k + 1) := by have := N3.len; have := R.out.nl; show ns3.length ≤ k + 1; omega
  have HMD : Hid (MdOk ns3 ms ms.length ⟨x, r, r.w, i0, i1, i2⟩) := by
    refine ⟨hx3.t, HTW.out, by show 1 ≤ r.op; have := HO.out; omega, by show r.op ≤ 18; have := HO.out; omega, HOK.out, fun _ => ⟨hi0, hi1, hi2⟩, fun env => ?_⟩
    show V ns3 env x = _
    rw [hx3.v, tOf_of HM0.out, wOf_of HM0.out, N3.V env K0.out.t]
    unfold lv
    simp only [HO.out]
    rfl
  have HMB3 : Hid (Has w3 (wr.heap.size + 1) 38 #[.int .i64 0, .int .i64 r.op, .int .i64 r.w, .int .u16 r.val, .int .u8 r.a, .int .u8 r.b, .int .u8 r.c, .int .i64 0, .int .i64 i0, .int .i64 i1, .int .i64 i2]) := HMB2.out.same (N3.q _ (.inr (.inr rfl)))
  have HRB3 : Hid (Has w3 wr.heap.size 35 #[.int .i64 r.op, .int .i64 r.w, .int .u16 r.val, .int .u8 r.a, .int .u8 r.b, .int .u8 r.c]) := HRB2.out.same (N3.q _ (.inr (.inl rfl)))
  have HVB3 : Hid (Has w3 vb 62 (va vs)) := HVB2.out.same (N3.q _ (.inl (.inl rfl)))
  have HROW3 : Hid (w3.ownsRow W0.heap.size 38 11 (.slice (some ⟨lg, 0, none⟩) ms.length lcap) ms.length (mdCells ms)) := row_same HROW2.out (fun b hb => N3.q _ (.inl (.inr hb)))
  have z0 : w3.cell? ⟨wr.heap.size + 1, 0, none⟩ = some (.int .i64 0) := HMB3.out.cell 0
  have z1 : w3.cell? ⟨wr.heap.size + 1, 1, none⟩ = some (.int .i64 r.op) := HMB3.out.cell 1
  have z2 : w3.cell? ⟨wr.heap.size + 1, 2, none⟩ = some (.int .i64 r.w) := HMB3.out.cell 2
  have z3 : w3.cell? ⟨wr.heap.size + 1, 3, none⟩ = some (.int .u16 r.val) := HMB3.out.cell 3
  have z4 : w3.cell? ⟨wr.heap.size + 1, 4, none⟩ = some (.int .u8 r.a) := HMB3.out.cell 4
  have z5 : w3.cell? ⟨wr.heap.size + 1, 5, none⟩ = some (.int .u8 r.b) := HMB3.out.cell 5
  have z6 : w3.cell? ⟨wr.heap.size + 1, 6, none⟩ = some (.int .u8 r.c) := HMB3.out.cell 6
  have z7 : w3.cell? ⟨wr.heap.size + 1, 7, none⟩ = some (.int .i64 0) := HMB3.out.cell 7
  have z8 : w3.cell? ⟨wr.heap.size + 1, 8, none⟩ = some (.int .i64 i0) := HMB3.out.cell 8
  have z9 : w3.cell? ⟨wr.heap.size + 1, 9, none⟩ = some (.int .i64 i1) := HMB3.out.cell 9
  have z10 : w3.cell? ⟨wr.heap.size + 1, 10, none⟩ = some (.int .i64 i2) := HMB3.out.cell 10
  have zfr : ∀ i, w3.frozen? ⟨wr.heap.size + 1, i, none⟩ = false := HMB3.out.free
  have rr0 : w3.cell? ⟨wr.heap.size, 0, none⟩ = some (.int .i64 r.op) := HRB3.out.cell 0
  have rr1 : w3.cell? ⟨wr.heap.size, 1, none⟩ = some (.int .i64 r.w) := HRB3.out.cell 1
  have rr2 : w3.cell? ⟨wr.heap.size, 2, none⟩ = some (.int .u16 r.val) := HRB3.out.cell 2
  clear N3 hx3
  have C4 : Hid (Cur W0 ((w3.setCell ⟨wr.heap.size + 1, 0, none⟩ (.int .i64 x)).setCell ⟨wr.heap.size + 1, 7, none⟩ (.int .i64 r.w)) ab ns3 (Qm vb wr.heap.size (.slice (some ⟨lg, 0, none⟩) ms.length lcap))) := ((C3.out.store (p := ⟨wr.heap.size + 1, 0, none⟩) (.inr (.inr rfl)) (by have := R.out.cur.below0.size; show W0.heap.size ≤ wr.heap.size + 1; omega) (.int .i64 x)).store (p := ⟨wr.heap.size + 1, 7, none⟩) (.inr (.inr rfl)) (by have := R.out.cur.below0.size; show W0.heap.size ≤ wr.heap.size + 1; omega) (.int .i64 r.w))
  have HMB4 : Hid (Has ((w3.setCell ⟨wr.heap.size + 1, 0, none⟩ (.int .i64 x)).setCell ⟨wr.heap.size + 1, 7, none⟩ (.int .i64 r.w)) (wr.heap.size + 1) 38 #[.int .i64 x, .int .i64 r.op, .int .i64 r.w, .int .u16 r.val, .int .u8 r.a, .int .u8 r.b, .int .u8 r.c, .int .i64 r.w, .int .i64 i0, .int .i64 i1, .int .i64 i2]) := ((HMB3.out.put 0 (.int .i64 x)).put 7 (.int .i64 r.w))
  have HVB4 : Hid (Has ((w3.setCell ⟨wr.heap.size + 1, 0, none⟩ (.int .i64 x)).setCell ⟨wr.heap.size + 1, 7, none⟩ (.int .i64 r.w)) vb 62 (va vs)) := HVB3.out.same ((set_other (p := ⟨wr.heap.size + 1, 7, none⟩) hne2).trans (set_other (p := ⟨wr.heap.size + 1, 0, none⟩) hne2))
  have HROW4 : Hid (((w3.setCell ⟨wr.heap.size + 1, 0, none⟩ (.int .i64 x)).setCell ⟨wr.heap.size + 1, 7, none⟩ (.int .i64 r.w)).ownsRow W0.heap.size 38 11 (.slice (some ⟨lg, 0, none⟩) ms.length lcap) ms.length (mdCells ms)) := row_same HROW3.out (fun b hb => by
    have hb2 : lg = b := by simpa [Value.ownBlock] using hb
    have hne : b ≠ wr.heap.size + 1 := by omega
    exact ((set_other (p := ⟨wr.heap.size + 1, 7, none⟩) hne).trans (set_other (p := ⟨wr.heap.size + 1, 0, none⟩) hne)))
  have HWD := fun (W : World) (C : Cur W0 W ab ns3 (Qm vb wr.heap.size (.slice (some ⟨lg, 0, none⟩) ms.length lcap))) => Lib.hid (r_width C x)
  rw [HTW.out] at HWD
  go_wp2_with (go_at_call 20; refine (rmay_yes _ _ HW.out.1).mono ?_; rintro e w9 ⟨rfl, rfl⟩)
  have q0 : ((w3.setCell ⟨wr.heap.size + 1, 0, none⟩ (.int .i64 x)).setCell ⟨wr.heap.size + 1, 7, none⟩ (.int .i64 r.w)).cell? ⟨wr.heap.size + 1, 0, none⟩ = some (.int .i64 x) := HMB4.out.cell 0
  have q7 : ((w3.setCell ⟨wr.heap.size + 1, 0, none⟩ (.int .i64 x)).setCell ⟨wr.heap.size + 1, 7, none⟩ (.int .i64 r.w)).cell? ⟨wr.heap.size + 1, 7, none⟩ = some (.int .i64 r.w) := HMB4.out.cell 7
  go_region_held3 (fun w' => w'.cell? ⟨wr.heap.size + 1, 0, none⟩ = some (.int .i64 x) ∧ w'.cell? ⟨wr.heap.size + 1, 7, none⟩ = some (.int .i64 r.w)) (go_keep) (first | (go_at_call 14; refine (HWD _ (by exact C4.out.alike rfl rfl rfl rfl)).out.mono ?_; rintro e w5 ⟨rfl, hb5⟩; have C5 := Lib.hid (Cur.below (by exact C4.out.alike rfl rfl rfl rfl) hb5); have HMB5 : Hid (Has w5 (wr.heap.size + 1) 38 #[.int .i64 x, .int .i64 r.op, .int .i64 r.w, .int .u16 r.val, .int .u8 r.a, .int .u8 r.b, .int .u8 r.c, .int .i64 r.w, .int .i64 i0, .int .i64 i1, .int .i64 i2]) := (HMB4.out.same (by exact hb5.block _ HMB4.out.lt)); have HVB5 : Hid (Has w5 vb 62 (va vs)) := (HVB4.out.same (by exact hb5.block _ HVB4.out.lt)); have HROW5 : Hid (w5.ownsRow W0.heap.size 38 11 (.slice (some ⟨lg, 0, none⟩) ms.length lcap) ms.length (mdCells ms)) := (row_same HROW4.out (fun b hb => by (obtain ⟨cur, hc⟩ := row_block HROW4.out hb; exact hb5.block _ hc.lt))); have y0 : w5.cell? ⟨wr.heap.size + 1, 0, none⟩ = some (.int .i64 x) := HMB5.out.cell 0; have y1 : w5.cell? ⟨wr.heap.size + 1, 1, none⟩ = some (.int .i64 r.op) := HMB5.out.cell 1; have y2 : w5.cell? ⟨wr.heap.size + 1, 2, none⟩ = some (.int .i64 r.w) := HMB5.out.cell 2; have y3 : w5.cell? ⟨wr.heap.size + 1, 3, none⟩ = some (.int .u16 r.val) := HMB5.out.cell 3; have y4 : w5.cell? ⟨wr.heap.size + 1, 4, none⟩ = some (.int .u8 r.a) := HMB5.out.cell 4; have y5 : w5.cell? ⟨wr.heap.size + 1, 5, none⟩ = some (.int .u8 r.b) := HMB5.out.cell 5; have y6 : w5.cell? ⟨wr.heap.size + 1, 6, none⟩ = some (.int .u8 r.c) := HMB5.out.cell 6; have y7 : w5.cell? ⟨wr.heap.size + 1, 7, none⟩ = some (.int .i64 r.w) := HMB5.out.cell 7; have y8 : w5.cell? ⟨wr.heap.size + 1, 8, none⟩ = some (.int .i64 i0) := HMB5.out.cell 8; have y9 : w5.cell? ⟨wr.heap.size + 1, 9, none⟩ = some (.int .i64 i1) := HMB5.out.cell 9; have y10 : w5.cell? ⟨wr.heap.size + 1, 10, none⟩ = some (.int .i64 i2) := HMB5.out.cell 10; have hsz5 : W0.heap.size ≤ w5.heap.size := C5.out.below0.size; clear hb5))
  obtain ⟨iM, hi, hz0, hz1', hz2'⟩ := info_parts infoMade
  have HI := Lib.hid (And.intro hi (And.intro hz0 (And.intro hz1' hz2')))
  clear hi hz0 hz1' hz2'
  go_wp2_with (at_builtin; refine wpList_append_lies _ rfl _ _ _ rfl W0.heap.size 38 iM _ 11 64 Tryd.underlying28 HI.out.1 HI.out.2.1 HI.out.2.2.1 HI.out.2.2.2 rfl (by omega) (.slice (some ⟨lg, 0, none⟩) ms.length lcap) ms.length (mdCells ms) rfl (by exact row_alike (HROW5.out.alloc _) rfl) ⟨w5.heap.size, 0, none⟩ 1 1 (⟨x, r, r.w, i0, i1, i2⟩ : Md).v rfl rfl (by exact World.news_of_block (cs := #[.int .i64 x, .int .i64 r.op, .int .i64 r.w, .int .u16 r.val, .int .u8 r.a, .int .u8 r.b, .int .u8 r.c, .int .i64 r.w, .int .i64 i0, .int .i64 i1, .int .i64 i2]) (t := 38) (fr := (0, 0)) (new_at (W := w5) rfl rfl)) (by simp [Md.v, Value.oneCell']) (by omega) (by unfold maxLen; omega) (by omega) (by simp; omega) (w5.heap.size + 1) (by simp) ?_; intro g6 cap6 w6 hown6 hg6 hat6 hlt6; have HO6 := Lib.hid hown6; have HG6 : Hid ((w5.alloc (.cells #[.int .i64 x, .int .i64 r.op, .int .i64 r.w, .int .u16 r.val, .int .u8 r.a, .int .u8 r.b, .int .u8 r.c, .int .i64 r.w, .int .i64 i0, .int .i64 i1, .int .i64 i2] 38)).grownBy w6 (some lg)) := ⟨hg6.os, hg6.tape, hg6.output, hg6.size, hg6.block⟩; have HAT := Lib.hid hat6; clear hown6 hg6 hat6)
  refine ⟨⟨k + 1, ns3, ms ++ [(⟨x, r, r.w, i0, i1, i2⟩ : Md)], vs, (.slice (some ⟨g6, 0, none⟩) (ms.length + 1) cap6), by omega, rfl, rfl, rfl, rfl, rfl, rfl, by first | rfl | (show some (Value.int .i64 _) = _; simp), ?_⟩, by simp [Wmu, intOf]; omega⟩
  have hlgW : W0.heap.size ≤ lg := hlb
  refine ⟨(C5.out.alloc _).grown2 HG6.out (fun b hb => ?_) (fun b hb => ?_), ?_, HVOK.out, ?_, HMOK.out.snoc HMD.out, by have := HNL.out; omega, by simp; omega, R.out.vge⟩
  · injection hb with hb; subst hb; exact ⟨.inl (.inr rfl), hlgW⟩
  · rcases hb with hb | hb
    · exact .inl (.inl (.inl hb))
    · have hb' : g6 = b := by simpa [Value.ownBlock] using hb
      subst hb'
      rcases HAT.out with e | e
      · have : lg = g6 := by simpa [Value.ownBlock] using e
        exact .inl (.inl (.inr (by rw [this]; rfl)))
      · exact .inr ⟨by simp; omega, hlt6⟩
  · have hv5 := HVB5.out
    refine (hv5.same (w' := w5.alloc (.cells #[.int .i64 x, .int .i64 r.op, .int .i64 r.w, .int .u16 r.val, .int .u8 r.a, .int .u8 r.b, .int .u8 r.c, .int .i64 r.w, .int .i64 i0, .int .i64 i1, .int .i64 i2] 38)) (alloc_other hv5.lt)).same (HG6.out.block _ (by have := hv5.lt; simp; omega) (fun e => ?_))
    injection e with e
    obtain ⟨cur, hc⟩ := row_block HROW5.out (g := lg) rfl
    exact hc.unlike hv5 (by decide) e.symm
  · have := HO6.out
    rw [show (ms ++ [(⟨x, r, r.w, i0, i1, i2⟩ : Md)]).length = ms.length + 1 by simp, mdCells_snoc]
    exact this

set_option maxHeartbeats 8000000 in
set_option maxRecDepth 1000000 in
theorem bcut (W0 wr : World) (ab vb k cap lcap g off : Nat) (LA : Option Addr) (rs : List Rw) (r : Rw) (ns : List Nd) (ms : List Md) (vs : List Int) (u : Nat → Value) (Q0 : Exit → Act → World → Prop)
    (hrel : BRel W0 wr ab vb k (.slice LA ms.length lcap) ns ms vs) (hR : RowsAt W0 (some ⟨g, off, none⟩) rs) (hgW : g < W0.heap.size) (hr : rs[k]? = some r) (hn : rs.length ≤ 200) (hcap : rs.length ≤ cap) (hcap2 : cap ≤ 9223372036854775807) (i0 i1 i2 : Nat) (hi0 : i0 < ms.length) (hi1 : i1 < ms.length) (hi2 : i2 < ms.length) (e0 : r.a.tmod (ms.length : Int) = (i0 : Int)) (e1 : r.b.tmod (ms.length : Int) = (i1 : Int)) (e2 : r.c.tmod (ms.length : Int) = (i2 : Int)) (ho : r.op = 18) (hw : mayw r.w) (hw0 : r.w ≤ wOf ms i0) :
    Code.wp Tryd.prog bbody (Exit.then (fun a' w'' => WI W0 ab vb cap (some ⟨g, off, none⟩) rs a' w'' ∧ Wmu rs.length a' < Wmu rs.length ⟨#[ptr ab, .slice (some ⟨g, off, none⟩) rs.length cap, u 2, u 3, u 4, u 5, .slice LA ms.length lcap, ptr vb, .int .i64 k, u 9, u 10, u 11, u 12, u 13, u 14, u 15, u 16, u 17, u 18, u 19, u 20, u 21, u 22, u 23, u 24, u 25, u 26, u 27, u 28, u 29, u 30, u 31, u 32, u 33, u 34, u 35, u 36, u 37, u 38, u 39, u 40, u 41, u 42, u 43, u 44, u 45, u 46, u 47, u 48, u 49, u 50, u 51, u 52, u 53, u 54, u 55, u 56, u 57, u 58, u 59, u 60, u 61, u 62, u 63, u 64, u 65, u 66, u 67, u 68, u 69, u 70, u 71, u 72, u 73, u 74, u 75, u 76, u 77, u 78, u 79, u 80, u 81, u 82, u 83, u 84, u 85, u 86, u 87, u 88, u 89, u 90, u 91, u 92, u 93, u 94, u 95, u 96, u 97, u 98, u 99, u 100, u 101, u 102, u 103, u 104, u 105, u 106, u 107, u 108, u 109, u 110, u 111, u 112, u 113, u 114, u 115, u 116, u 117, u 118, u 119, u 120, u 121, u 122, u 123, u 124, u 125, u 126, u 127, u 128, u 129, u 130, u 131, u 132, u 133, u 134, u 135, u 136, u 137, u 138, u 139, u 140, u 141, u 142, u 143, u 144, u 145, u 146, u 147, u 148, u 149, u 150, u 151, u 152, u 153, u 154, u 155, u 156, u 157, u 158, u 159, u 160, u 161, u 162, u 163, u 164, u 165, u 166, u 167, u 168, u 169, u 170, u 171, u 172, u 173, u 174, u 175, u 176, u 177, u 178, u 179, u 180, u 181, u 182, u 183, u 184, u 185, u 186, u 187, u 188, u 189, u 190, u 191, u 192, u 193, u 194, u 195, u 196, u 197, u 198, u 199, u 200, u 201, u 202, u 203, u 204, u 205, u 206, u 207, u 208, u 209, u 210, u 211, u 212, u 213, u 214, u 215, u 216, u 217, u 218, u 219, u 220, u 221, u 222, u 223, u 224, u 225, u 226, u 227, u 228, u 229, u 230, u 231, u 232, u 233, u 234, u 235, u 236, u 237, u 238, u 239, u 240, u 241, u 242, u 243, u 244, u 245, u 246, u 247, u 248, u 249, u 250, u 251, u 252, u 253, u 254, u 255, u 256, u 257, u 258, u 259, u 260, u 261, u 262, u 263, u 264, u 265, u 266, u 267, u 268, u 269, u 270, u 271, u 272, u 273, u 274, u 275, u 276, u 277, u 278, u 279, u 280, u 281, u 282, u 283, u 284, u 285, u 286, u 287, u 288, u 289, u 290, u 291, u 292, u 293, u 294, u 295, u 296, u 297, u 298, u 299, u 300, u 301, u 302, u 303, u 304, u 305, u 306, u 307, u 308, u 309, u 310, u 311, u 312, u 313, u 314, u 315, u 316, u 317, u 318, u 319, u 320, u 321, u 322, u 323, u 324], []⟩) Q0) ⟨#[ptr ab, .slice (some ⟨g, off, none⟩) rs.length cap, u 2, u 3, u 4, u 5, .slice LA ms.length lcap, ptr vb, .int .i64 k, u 9, u 10, u 11, u 12, u 13, u 14, u 15, u 16, u 17, u 18, u 19, u 20, u 21, u 22, u 23, u 24, u 25, u 26, u 27, u 28, u 29, u 30, u 31, u 32, u 33, u 34, u 35, u 36, u 37, u 38, u 39, u 40, u 41, u 42, u 43, u 44, u 45, u 46, u 47, u 48, u 49, u 50, u 51, u 52, u 53, u 54, u 55, u 56, u 57, u 58, u 59, u 60, u 61, u 62, u 63, u 64, u 65, u 66, u 67, u 68, u 69, u 70, u 71, u 72, u 73, u 74, u 75, u 76, u 77, u 78, u 79, u 80, u 81, u 82, u 83, u 84, u 85, u 86, u 87, u 88, u 89, u 90, u 91, u 92, u 93, u 94, u 95, u 96, u 97, u 98, u 99, u 100, u 101, u 102, u 103, u 104, u 105, u 106, u 107, u 108, u 109, u 110, u 111, u 112, u 113, u 114, u 115, u 116, u 117, u 118, u 119, u 120, u 121, u 122, u 123, u 124, u 125, u 126, u 127, u 128, u 129, u 130, u 131, u 132, u 133, u 134, u 135, u 136, u 137, u 138, u 139, u 140, u 141, u 142, u 143, u 144, u 145, u 146, u 147, u 148, u 149, u 150, u 151, u 152, u 153, u 154, u 155, u 156, u 157, u 158, u 159, u 160, u 161, u 162, u 163, u 164, u 165, u 166, u 167, u 168, u 169, u 170, u 171, u 172, u 173, u 174, u 175, u 176, u 177, u 178, u 179, u 180, u 181, u 182, u 183, u 184, u 185, u 186, u 187, u 188, u 189, u 190, u 191, u 192, u 193, u 194, u 195, u 196, u 197, u 198, u 199, u 200, u 201, u 202, u 203, u 204, u 205, u 206, u 207, u 208, u 209, u 210, u 211, u 212, u 213, u 214, u 215, u 216, u 217, u 218, u 219, u 220, u 221, u 222, u 223, u 224, u 225, u 226, u 227, u 228, u 229, u 230, u 231, u 232, u 233, u 234, u 235, u 236, u 237, u 238, u 239, u 240, u 241, u 242, u 243, u 244, u 245, u 246, u 247, u 248, u 249, u 250, u 251, u 252, u 253, u 254, u 255, u 256, u 257, u 258, u 259, u 260, u 261, u 262, u 263, u 264, u 265, u 266, u 267, u 268, u 269, u 270, u 271, u 272, u 273, u 274, u 275, u 276, u 277, u 278, u 279, u 280, u 281, u 282, u 283, u 284, u 285, u 286, u 287, u 288, u 289, u 290, u 291, u 292, u 293, u 294, u 295, u 296, u 297, u 298, u 299, u 300, u 301, u 302, u 303, u 304, u 305, u 306, u 307, u 308, u 309, u 310, u 311, u 312, u 313, u 314, u 315, u 316, u 317, u 318, u 319, u 320, u 321, u 322, u 323, u 324], []⟩ wr := by
  have hlt : k < rs.length := (List.getElem?_eq_some_iff.1 hr).1
  have hgl : g < wr.heap.size := Nat.lt_of_lt_of_le hgW hrel.cur.below0.size
  have hvbl : vb < wr.heap.size := hrel.hv.lt
  have hok := hR.ok r (List.mem_of_getElem? hr)
  have key : ∀ j, j < 6 → wr.cell? ⟨g, off + k * 6 + j, none⟩ = r.v[j]? := fun j hj => by
    obtain ⟨g', off', hA, _, hc⟩ := hR.get k r hr
    injection hA with hA
    injection hA with h1 h2
    subst h1; subst h2
    exact (hrel.cur.below0.cell (p := ⟨g, off + k * 6 + j, none⟩) hgW).trans (hc j hj)
  have r0 : wr.cell? ⟨g, off + k * 6, none⟩ = some (.int .i64 r.op) := key 0 (by decide)
  have r1 : wr.cell? ⟨g, off + k * 6 + 1, none⟩ = some (.int .i64 r.w) := key 1 (by decide)
  have r2 : wr.cell? ⟨g, off + k * 6 + 2, none⟩ = some (.int .u16 r.val) := key 2 (by decide)
  have r3 : wr.cell? ⟨g, off + k * 6 + 3, none⟩ = some (.int .u8 r.a) := key 3 (by decide)
  have r4 : wr.cell? ⟨g, off + k * 6 + 4, none⟩ = some (.int .u8 r.b) := key 4 (by decide)
  have r5 : wr.cell? ⟨g, off + k * 6 + 5, none⟩ = some (.int .u8 r.c) := key 5 (by decide)
  have hml := hrel.ml
  have zm := zero_made
  have R := Lib.hid hrel
  have HOK := Lib.hid hok
  clear hrel hR hr key hok
  obtain ⟨m0, hm0, k0⟩ := R.out.mok.at_ (show i0 < ms.length by omega)
  obtain ⟨m1_, hm1, k1⟩ := R.out.mok.at_ (show i1 < ms.length by omega)
  obtain ⟨m2, hm2, k2⟩ := R.out.mok.at_ (show i2 < ms.length by omega)
  obtain ⟨lg, lc, hLA, hlg, hlb, hlc1, hlc2, hc0⟩ := row_md R.out.row hm0
  injection hLA with hLA1 hLA2 hLA3
  subst hLA1; subst hLA3
  obtain ⟨lg', lc', hLB, _, _, _, _, hc1⟩ := row_md R.out.row hm1
  injection hLB with hLB1 hLB2 hLB3
  injection hLB1 with hLB1
  injection hLB1 with hLB1 _
  subst hLB1; subst hLB3
  obtain ⟨lg'', lc'', hLB, _, _, _, _, hc2⟩ := row_md R.out.row hm2
  injection hLB with hLB1 hLB2 hLB3
  injection hLB1 with hLB1
  injection hLB1 with hLB1 _
  subst hLB1; subst hLB3
  have a0 : wr.cell? ⟨lg, i0 * 11, none⟩ = some (.int .i64 m0.t) := hc0 0 (by decide)
  have a7 : wr.cell? ⟨lg, i0 * 11 + 7, none⟩ = some (.int .i64 m0.w) := hc0 7 (by decide)
  have b0 : wr.cell? ⟨lg, i1 * 11, none⟩ = some (.int .i64 m1_.t) := hc1 0 (by decide)
  have b7 : wr.cell? ⟨lg, i1 * 11 + 7, none⟩ = some (.int .i64 m1_.w) := hc1 7 (by decide)
  have d0 : wr.cell? ⟨lg, i2 * 11, none⟩ = some (.int .i64 m2.t) := hc2 0 (by decide)
  have d7 : wr.cell? ⟨lg, i2 * 11 + 7, none⟩ = some (.int .i64 m2.w) := hc2 7 (by decide)
  unfold maxLen at hlc2
  have HM0 := Lib.hid hm0
  have HM1 := Lib.hid hm1
  have HM2 := Lib.hid hm2
  have K0 := Lib.hid k0
  have K1 := Lib.hid k1
  have K2 := Lib.hid k2
  have hvA : IntKind.i64.wrap r.a = r.a := by have := HOK.out.a; exact IntWalk.i64_in _ (by omega)
  have hvB : IntKind.i64.wrap r.b = r.b := by have := HOK.out.b; exact IntWalk.i64_in _ (by omega)
  have hvC : IntKind.i64.wrap r.c = r.c := by have := HOK.out.c; exact IntWalk.i64_in _ (by omega)
  obtain ⟨oa0, oa1⟩ := HOK.out.a
  obtain ⟨ob0, ob1⟩ := HOK.out.b
  obtain ⟨oc0, oc1⟩ := HOK.out.c
  have g00 : (0 : Int) ≤ (i0 : Int) := by omega
  have g01 : (i0 : Int) < (ms.length : Int) := by omega
  have g10 : (0 : Int) ≤ (i1 : Int) := by omega
  have g11 : (i1 : Int) < (ms.length : Int) := by omega
  have g20 : (0 : Int) ≤ (i2 : Int) := by omega
  have g21 : (i2 : Int) < (ms.length : Int) := by omega
  have hml1 : (1 : Int) ≤ (ms.length : Int) := by omega
  have hz1 : ((ms.length : Int) == 0) = false := by simp; intro e; subst e; simp at hi0
  have hz2 : ¬ ms = [] := fun e => by subst e; simp at hi0
  have hz3 : (decide ((ms.length : Int) = 0)) = false := by simpa using hz2
  clear hm0 hm1 hm2 k0 k1 k2 hc0 hc1 hc2 hLA2 hLB2
  have t1 : (r.op == 1) = false := by simp; omega
  have t2 : (r.op == 2) = false := by simp; omega
  have t3 : (r.op == 3) = false := by simp; omega
  have t16 : (r.op == 16) = false := by simp; omega
  have t17 : (r.op == 17) = false := by simp; omega
  have t4 : (decide (4 ≤ r.op)) = true := by simp; omega
  have t15 : (decide (r.op ≤ 15)) = false := by simp; omega
  have t18 : (r.op == 18) = true := by simpa using ho
  rw [wOf_of HM0.out] at hw0
  have q1 : (decide (m0.w < r.w)) = false := by simp; omega
  have HW := Lib.hid (And.intro hw hw0)
  clear hw hw0
  have HO := Lib.hid ho
  clear ho
  have C2 : Hid (Cur W0 ((wr.alloc (.cells #[.int .i64 r.op, .int .i64 r.w, .int .u16 r.val, .int .u8 r.a, .int .u8 r.b, .int .u8 r.c] 35)).alloc (.cells #[.int .i64 0, .int .i64 r.op, .int .i64 r.w, .int .u16 r.val, .int .u8 r.a, .int .u8 r.b, .int .u8 r.c, .int .i64 0, .int .i64 i0, .int .i64 i1, .int .i64 i2] 38)) ab ns (Qm vb wr.heap.size (.slice (some ⟨lg, 0, none⟩) ms.length lcap))) := ((R.out.cur.mine _).mine _).less (fun b hb => by
    rcases hb with hb | hb | hb
    · exact .inl (.inl hb)
    · exact .inl (.inr hb)
    · exact .inr (by simpa using hb))
  have HRB2 : Hid (Has ((wr.alloc (.cells #[.int .i64 r.op, .int .i64 r.w, .int .u16 r.val, .int .u8 r.a, .int .u8 r.b, .int .u8 r.c] 35)).alloc (.cells #[.int .i64 0, .int .i64 r.op, .int .i64 r.w, .int .u16 r.val, .int .u8 r.a, .int .u8 r.b, .int .u8 r.c, .int .i64 0, .int .i64 i0, .int .i64 i1, .int .i64 i2] 38)) wr.heap.size 35 #[.int .i64 r.op, .int .i64 r.w, .int .u16 r.val, .int .u8 r.a, .int .u8 r.b, .int .u8 r.c]) := (Has.new wr 35 #[.int .i64 r.op, .int .i64 r.w, .int .u16 r.val, .int .u8 r.a, .int .u8 r.b, .int .u8 r.c]).same (alloc_other (by simp))
  have HMB2 : Hid (Has ((wr.alloc (.cells #[.int .i64 r.op, .int .i64 r.w, .int .u16 r.val, .int .u8 r.a, .int .u8 r.b, .int .u8 r.c] 35)).alloc (.cells #[.int .i64 0, .int .i64 r.op, .int .i64 r.w, .int .u16 r.val, .int .u8 r.a, .int .u8 r.b, .int .u8 r.c, .int .i64 0, .int .i64 i0, .int .i64 i1, .int .i64 i2] 38)) (wr.heap.size + 1) 38 #[.int .i64 0, .int .i64 r.op, .int .i64 r.w, .int .u16 r.val, .int .u8 r.a, .int .u8 r.b, .int .u8 r.c, .int .i64 0, .int .i64 i0, .int .i64 i1, .int .i64 i2]) := by
    have := Has.new (wr.alloc (.cells #[.int .i64 r.op, .int .i64 r.w, .int .u16 r.val, .int .u8 r.a, .int .u8 r.b, .int .u8 r.c] 35)) 38 #[.int .i64 0, .int .i64 r.op, .int .i64 r.w, .int .u16 r.val, .int .u8 r.a, .int .u8 r.b, .int .u8 r.c, .int .i64 0, .int .i64 i0, .int .i64 i1, .int .i64 i2]
    rw [show (wr.alloc (.cells #[.int .i64 r.op, .int .i64 r.w, .int .u16 r.val, .int .u8 r.a, .int .u8 r.b, .int .u8 r.c] 35)).heap.size = wr.heap.size + 1 by simp] at this
    exact this
  have HVB2 : Hid (Has ((wr.alloc (.cells #[.int .i64 r.op, .int .i64 r.w, .int .u16 r.val, .int .u8 r.a, .int .u8 r.b, .int .u8 r.c] 35)).alloc (.cells #[.int .i64 0, .int .i64 r.op, .int .i64 r.w, .int .u16 r.val, .int .u8 r.a, .int .u8 r.b, .int .u8 r.c, .int .i64 0, .int .i64 i0, .int .i64 i1, .int .i64 i2] 38)) vb 62 (va vs)) := (R.out.hv.same (alloc_other R.out.hv.lt)).same (alloc_other (by have := R.out.hv.lt; simp; omega))
  have HROW2 : Hid (((wr.alloc (.cells #[.int .i64 r.op, .int .i64 r.w, .int .u16 r.val, .int .u8 r.a, .int .u8 r.b, .int .u8 r.c] 35)).alloc (.cells #[.int .i64 0, .int .i64 r.op, .int .i64 r.w, .int .u16 r.val, .int .u8 r.a, .int .u8 r.b, .int .u8 r.c, .int .i64 0, .int .i64 i0, .int .i64 i1, .int .i64 i2] 38)).ownsRow W0.heap.size 38 11 (.slice (some ⟨lg, 0, none⟩) ms.length lcap) ms.length (mdCells ms)) := row_same R.out.row (fun b hb => by
    obtain ⟨cur, hc⟩ := row_block R.out.row hb
    exact (alloc_other (by have := hc.lt; simp; omega)).trans (alloc_other hc.lt))
  have hne1 : vb ≠ wr.heap.size := by omega
  have hne2 : vb ≠ wr.heap.size + 1 := by omega
  conv => arg 2; whnf
  go_wp2_with fail
  go_region_held3 (fun w' => w'.cell? ⟨wr.heap.size, 3, none⟩ = some (.int .u8 r.a) ∧ w'.cell? ⟨wr.heap.size, 4, none⟩ = some (.int .u8 r.b) ∧ w'.cell? ⟨wr.heap.size, 5, none⟩ = some (.int .u8 r.c)) (go_keep) (fail)
  go_wp2_with fail
  go_quiet (fail)
  go_wp2_with fail
  go_quiet (fail)
  go_wp2_with fail
  refine (l_cut W0 _ ab ns (Qm vb wr.heap.size (.slice (some ⟨lg, 0, none⟩) ms.length lcap)) r.w m0.t (by exact C2.out.alike rfl rfl rfl rfl) (by have := R.out.nl; omega) HW.out.1 K0.out.t (by rw [K0.out.w]; exact HW.out.2)).mono ?_
  rintro e w3 ⟨x, ns3, rfl, N3, hx3⟩
  have C3 := Lib.hid N3.cur
  have HTW : Hid (wdt ns3 x = r.w) := hx3.w
  have HMOK := Lib.hid (R.out.mok.ext N3)
  have HVOK := Lib.hid (R.out.vok.ext N3.ext hx3.n)
  have HNL : Hid (ns3.length ≤ k + 1) := by have := N3.len; have := R.out.nl; show ns3.length ≤ k + 1; omega
  have HMD : Hid (MdOk ns3 ms ms.length ⟨x, r, r.w, i0, i1, i2⟩) := by
    refine ⟨hx3.t, HTW.out, by show 1 ≤ r.op; have := HO.out; omega, by show r.op ≤ 18; have := HO.out; omega, HOK.out, fun _ => ⟨hi0, hi1, hi2⟩, fun env => ?_⟩
    show V ns3 env x = _
    rw [hx3.v, tOf_of HM0.out, wOf_of HM0.out, N3.V env K0.out.t]
    unfold lv
    simp only [HO.out]
    rfl
  have HMB3 : Hid (Has w3 (wr.heap.size + 1) 38 #[.int .i64 0, .int .i64 r.op, .int .i64 r.w, .int .u16 r.val, .int .u8 r.a, .int .u8 r.b, .int .u8 r.c, .int .i64 0, .int .i64 i0, .int .i64 i1, .int .i64 i2]) := HMB2.out.same (N3.q _ (.inr (.inr rfl)))
  have HRB3 : Hid (Has w3 wr.heap.size 35 #[.int .i64 r.op, .int .i64 r.w, .int .u16 r.val, .int .u8 r.a, .int .u8 r.b, .int .u8 r.c]) := HRB2.out.same (N3.q _ (.inr (.inl rfl)))
  have HVB3 : Hid (Has w3 vb 62 (va vs)) := HVB2.out.same (N3.q _ (.inl (.inl rfl)))
  have HROW3 : Hid (w3.ownsRow W0.heap.size 38 11 (.slice (some ⟨lg, 0, none⟩) ms.length lcap) ms.length (mdCells ms)) := row_same HROW2.out (fun b hb => N3.q _ (.inl (.inr hb)))
  have z0 : w3.cell? ⟨wr.heap.size + 1, 0, none⟩ = some (.int .i64 0) := HMB3.out.cell 0
  have z1 : w3.cell? ⟨wr.heap.size + 1, 1, none⟩ = some (.int .i64 r.op) := HMB3.out.cell 1
  have z2 : w3.cell? ⟨wr.heap.size + 1, 2, none⟩ = some (.int .i64 r.w) := HMB3.out.cell 2
  have z3 : w3.cell? ⟨wr.heap.size + 1, 3, none⟩ = some (.int .u16 r.val) := HMB3.out.cell 3
  have z4 : w3.cell? ⟨wr.heap.size + 1, 4, none⟩ = some (.int .u8 r.a) := HMB3.out.cell 4
  have z5 : w3.cell? ⟨wr.heap.size + 1, 5, none⟩ = some (.int .u8 r.b) := HMB3.out.cell 5
  have z6 : w3.cell? ⟨wr.heap.size + 1, 6, none⟩ = some (.int .u8 r.c) := HMB3.out.cell 6
  have z7 : w3.cell? ⟨wr.heap.size + 1, 7, none⟩ = some (.int .i64 0) := HMB3.out.cell 7
  have z8 : w3.cell? ⟨wr.heap.size + 1, 8, none⟩ = some (.int .i64 i0) := HMB3.out.cell 8
  have z9 : w3.cell? ⟨wr.heap.size + 1, 9, none⟩ = some (.int .i64 i1) := HMB3.out.cell 9
  have z10 : w3.cell? ⟨wr.heap.size + 1, 10, none⟩ = some (.int .i64 i2) := HMB3.out.cell 10
  have zfr : ∀ i, w3.frozen? ⟨wr.heap.size + 1, i, none⟩ = false := HMB3.out.free
  have rr0 : w3.cell? ⟨wr.heap.size, 0, none⟩ = some (.int .i64 r.op) := HRB3.out.cell 0
  have rr1 : w3.cell? ⟨wr.heap.size, 1, none⟩ = some (.int .i64 r.w) := HRB3.out.cell 1
  have rr2 : w3.cell? ⟨wr.heap.size, 2, none⟩ = some (.int .u16 r.val) := HRB3.out.cell 2
  clear N3 hx3
  have C4 : Hid (Cur W0 ((w3.setCell ⟨wr.heap.size + 1, 0, none⟩ (.int .i64 x)).setCell ⟨wr.heap.size + 1, 7, none⟩ (.int .i64 r.w)) ab ns3 (Qm vb wr.heap.size (.slice (some ⟨lg, 0, none⟩) ms.length lcap))) := ((C3.out.store (p := ⟨wr.heap.size + 1, 0, none⟩) (.inr (.inr rfl)) (by have := R.out.cur.below0.size; show W0.heap.size ≤ wr.heap.size + 1; omega) (.int .i64 x)).store (p := ⟨wr.heap.size + 1, 7, none⟩) (.inr (.inr rfl)) (by have := R.out.cur.below0.size; show W0.heap.size ≤ wr.heap.size + 1; omega) (.int .i64 r.w))
  have HMB4 : Hid (Has ((w3.setCell ⟨wr.heap.size + 1, 0, none⟩ (.int .i64 x)).setCell ⟨wr.heap.size + 1, 7, none⟩ (.int .i64 r.w)) (wr.heap.size + 1) 38 #[.int .i64 x, .int .i64 r.op, .int .i64 r.w, .int .u16 r.val, .int .u8 r.a, .int .u8 r.b, .int .u8 r.c, .int .i64 r.w, .int .i64 i0, .int .i64 i1, .int .i64 i2]) := ((HMB3.out.put 0 (.int .i64 x)).put 7 (.int .i64 r.w))
  have HVB4 : Hid (Has ((w3.setCell ⟨wr.heap.size + 1, 0, none⟩ (.int .i64 x)).setCell ⟨wr.heap.size + 1, 7, none⟩ (.int .i64 r.w)) vb 62 (va vs)) := HVB3.out.same ((set_other (p := ⟨wr.heap.size + 1, 7, none⟩) hne2).trans (set_other (p := ⟨wr.heap.size + 1, 0, none⟩) hne2))
  have HROW4 : Hid (((w3.setCell ⟨wr.heap.size + 1, 0, none⟩ (.int .i64 x)).setCell ⟨wr.heap.size + 1, 7, none⟩ (.int .i64 r.w)).ownsRow W0.heap.size 38 11 (.slice (some ⟨lg, 0, none⟩) ms.length lcap) ms.length (mdCells ms)) := row_same HROW3.out (fun b hb => by
    have hb2 : lg = b := by simpa [Value.ownBlock] using hb
    have hne : b ≠ wr.heap.size + 1 := by omega
    exact ((set_other (p := ⟨wr.heap.size + 1, 7, none⟩) hne).trans (set_other (p := ⟨wr.heap.size + 1, 0, none⟩) hne)))
  have HWD := fun (W : World) (C : Cur W0 W ab ns3 (Qm vb wr.heap.size (.slice (some ⟨lg, 0, none⟩) ms.length lcap))) => Lib.hid (r_width C x)
  rw [HTW.out] at HWD
  go_wp2_with (go_at_call 20; refine (rmay_yes _ _ HW.out.1).mono ?_; rintro e w9 ⟨rfl, rfl⟩)
  have q0 : ((w3.setCell ⟨wr.heap.size + 1, 0, none⟩ (.int .i64 x)).setCell ⟨wr.heap.size + 1, 7, none⟩ (.int .i64 r.w)).cell? ⟨wr.heap.size + 1, 0, none⟩ = some (.int .i64 x) := HMB4.out.cell 0
  have q7 : ((w3.setCell ⟨wr.heap.size + 1, 0, none⟩ (.int .i64 x)).setCell ⟨wr.heap.size + 1, 7, none⟩ (.int .i64 r.w)).cell? ⟨wr.heap.size + 1, 7, none⟩ = some (.int .i64 r.w) := HMB4.out.cell 7
  go_region_held3 (fun w' => w'.cell? ⟨wr.heap.size + 1, 0, none⟩ = some (.int .i64 x) ∧ w'.cell? ⟨wr.heap.size + 1, 7, none⟩ = some (.int .i64 r.w)) (go_keep) (first | (go_at_call 14; refine (HWD _ (by exact C4.out.alike rfl rfl rfl rfl)).out.mono ?_; rintro e w5 ⟨rfl, hb5⟩; have C5 := Lib.hid (Cur.below (by exact C4.out.alike rfl rfl rfl rfl) hb5); have HMB5 : Hid (Has w5 (wr.heap.size + 1) 38 #[.int .i64 x, .int .i64 r.op, .int .i64 r.w, .int .u16 r.val, .int .u8 r.a, .int .u8 r.b, .int .u8 r.c, .int .i64 r.w, .int .i64 i0, .int .i64 i1, .int .i64 i2]) := (HMB4.out.same (by exact hb5.block _ HMB4.out.lt)); have HVB5 : Hid (Has w5 vb 62 (va vs)) := (HVB4.out.same (by exact hb5.block _ HVB4.out.lt)); have HROW5 : Hid (w5.ownsRow W0.heap.size 38 11 (.slice (some ⟨lg, 0, none⟩) ms.length lcap) ms.length (mdCells ms)) := (row_same HROW4.out (fun b hb => by (obtain ⟨cur, hc⟩ := row_block HROW4.out hb; exact hb5.block _ hc.lt))); have y0 : w5.cell? ⟨wr.heap.size + 1, 0, none⟩ = some (.int .i64 x) := HMB5.out.cell 0; have y1 : w5.cell? ⟨wr.heap.size + 1, 1, none⟩ = some (.int .i64 r.op) := HMB5.out.cell 1; have y2 : w5.cell? ⟨wr.heap.size + 1, 2, none⟩ = some (.int .i64 r.w) := HMB5.out.cell 2; have y3 : w5.cell? ⟨wr.heap.size + 1, 3, none⟩ = some (.int .u16 r.val) := HMB5.out.cell 3; have y4 : w5.cell? ⟨wr.heap.size + 1, 4, none⟩ = some (.int .u8 r.a) := HMB5.out.cell 4; have y5 : w5.cell? ⟨wr.heap.size + 1, 5, none⟩ = some (.int .u8 r.b) := HMB5.out.cell 5; have y6 : w5.cell? ⟨wr.heap.size + 1, 6, none⟩ = some (.int .u8 r.c) := HMB5.out.cell 6; have y7 : w5.cell? ⟨wr.heap.size + 1, 7, none⟩ = some (.int .i64 r.w) := HMB5.out.cell 7; have y8 : w5.cell? ⟨wr.heap.size + 1, 8, none⟩ = some (.int .i64 i0) := HMB5.out.cell 8; have y9 : w5.cell? ⟨wr.heap.size + 1, 9, none⟩ = some (.int .i64 i1) := HMB5.out.cell 9; have y10 : w5.cell? ⟨wr.heap.size + 1, 10, none⟩ = some (.int .i64 i2) := HMB5.out.cell 10; have hsz5 : W0.heap.size ≤ w5.heap.size := C5.out.below0.size; clear hb5))
  obtain ⟨iM, hi, hz0, hz1', hz2'⟩ := info_parts infoMade
  have HI := Lib.hid (And.intro hi (And.intro hz0 (And.intro hz1' hz2')))
  clear hi hz0 hz1' hz2'
  go_wp2_with (at_builtin; refine wpList_append_lies _ rfl _ _ _ rfl W0.heap.size 38 iM _ 11 64 Tryd.underlying28 HI.out.1 HI.out.2.1 HI.out.2.2.1 HI.out.2.2.2 rfl (by omega) (.slice (some ⟨lg, 0, none⟩) ms.length lcap) ms.length (mdCells ms) rfl (by exact row_alike (HROW5.out.alloc _) rfl) ⟨w5.heap.size, 0, none⟩ 1 1 (⟨x, r, r.w, i0, i1, i2⟩ : Md).v rfl rfl (by exact World.news_of_block (cs := #[.int .i64 x, .int .i64 r.op, .int .i64 r.w, .int .u16 r.val, .int .u8 r.a, .int .u8 r.b, .int .u8 r.c, .int .i64 r.w, .int .i64 i0, .int .i64 i1, .int .i64 i2]) (t := 38) (fr := (0, 0)) (new_at (W := w5) rfl rfl)) (by simp [Md.v, Value.oneCell']) (by omega) (by unfold maxLen; omega) (by omega) (by simp; omega) (w5.heap.size + 1) (by simp) ?_; intro g6 cap6 w6 hown6 hg6 hat6 hlt6; have HO6 := Lib.hid hown6; have HG6 : Hid ((w5.alloc (.cells #[.int .i64 x, .int .i64 r.op, .int .i64 r.w, .int .u16 r.val, .int .u8 r.a, .int .u8 r.b, .int .u8 r.c, .int .i64 r.w, .int .i64 i0, .int .i64 i1, .int .i64 i2] 38)).grownBy w6 (some lg)) := ⟨hg6.os, hg6.tape, hg6.output, hg6.size, hg6.block⟩; have HAT := Lib.hid hat6; clear hown6 hg6 hat6)
  refine ⟨⟨k + 1, ns3, ms ++ [(⟨x, r, r.w, i0, i1, i2⟩ : Md)], vs, (.slice (some ⟨g6, 0, none⟩) (ms.length + 1) cap6), by omega, rfl, rfl, rfl, rfl, rfl, rfl, by first | rfl | (show some (Value.int .i64 _) = _; simp), ?_⟩, by simp [Wmu, intOf]; omega⟩
  have hlgW : W0.heap.size ≤ lg := hlb
  refine ⟨(C5.out.alloc _).grown2 HG6.out (fun b hb => ?_) (fun b hb => ?_), ?_, HVOK.out, ?_, HMOK.out.snoc HMD.out, by have := HNL.out; omega, by simp; omega, R.out.vge⟩
  · injection hb with hb; subst hb; exact ⟨.inl (.inr rfl), hlgW⟩
  · rcases hb with hb | hb
    · exact .inl (.inl (.inl hb))
    · have hb' : g6 = b := by simpa [Value.ownBlock] using hb
      subst hb'
      rcases HAT.out with e | e
      · have : lg = g6 := by simpa [Value.ownBlock] using e
        exact .inl (.inl (.inr (by rw [this]; rfl)))
      · exact .inr ⟨by simp; omega, hlt6⟩
  · have hv5 := HVB5.out
    refine (hv5.same (w' := w5.alloc (.cells #[.int .i64 x, .int .i64 r.op, .int .i64 r.w, .int .u16 r.val, .int .u8 r.a, .int .u8 r.b, .int .u8 r.c, .int .i64 r.w, .int .i64 i0, .int .i64 i1, .int .i64 i2] 38)) (alloc_other hv5.lt)).same (HG6.out.block _ (by have := hv5.lt; simp; omega) (fun e => ?_))
    injection e with e
    obtain ⟨cur, hc⟩ := row_block HROW5.out (g := lg) rfl
    exact hc.unlike hv5 (by decide) e.symm
  · have := HO6.out
    rw [show (ms ++ [(⟨x, r, r.w, i0, i1, i2⟩ : Md)]).length = ms.length + 1 by simp, mdCells_snoc]
    exact this

set_option maxHeartbeats 8000000 in
set_option maxRecDepth 1000000 in
theorem btwo (W0 wr : World) (ab vb k cap lcap g off : Nat) (LA : Option Addr) (rs : List Rw) (r : Rw) (ns : List Nd) (ms : List Md) (vs : List Int) (u : Nat → Value) (Q0 : Exit → Act → World → Prop)
    (hrel : BRel W0 wr ab vb k (.slice LA ms.length lcap) ns ms vs) (hR : RowsAt W0 (some ⟨g, off, none⟩) rs) (hgW : g < W0.heap.size) (hr : rs[k]? = some r) (hn : rs.length ≤ 200) (hcap : rs.length ≤ cap) (hcap2 : cap ≤ 9223372036854775807) (i0 i1 i2 : Nat) (hi0 : i0 < ms.length) (hi1 : i1 < ms.length) (hi2 : i2 < ms.length) (e0 : r.a.tmod (ms.length : Int) = (i0 : Int)) (e1 : r.b.tmod (ms.length : Int) = (i1 : Int)) (e2 : r.c.tmod (ms.length : Int) = (i2 : Int)) (ho : 4 ≤ r.op ∧ r.op ≤ 13) (hw : wOf ms i0 = wOf ms i1) :
    Code.wp Tryd.prog bbody (Exit.then (fun a' w'' => WI W0 ab vb cap (some ⟨g, off, none⟩) rs a' w'' ∧ Wmu rs.length a' < Wmu rs.length ⟨#[ptr ab, .slice (some ⟨g, off, none⟩) rs.length cap, u 2, u 3, u 4, u 5, .slice LA ms.length lcap, ptr vb, .int .i64 k, u 9, u 10, u 11, u 12, u 13, u 14, u 15, u 16, u 17, u 18, u 19, u 20, u 21, u 22, u 23, u 24, u 25, u 26, u 27, u 28, u 29, u 30, u 31, u 32, u 33, u 34, u 35, u 36, u 37, u 38, u 39, u 40, u 41, u 42, u 43, u 44, u 45, u 46, u 47, u 48, u 49, u 50, u 51, u 52, u 53, u 54, u 55, u 56, u 57, u 58, u 59, u 60, u 61, u 62, u 63, u 64, u 65, u 66, u 67, u 68, u 69, u 70, u 71, u 72, u 73, u 74, u 75, u 76, u 77, u 78, u 79, u 80, u 81, u 82, u 83, u 84, u 85, u 86, u 87, u 88, u 89, u 90, u 91, u 92, u 93, u 94, u 95, u 96, u 97, u 98, u 99, u 100, u 101, u 102, u 103, u 104, u 105, u 106, u 107, u 108, u 109, u 110, u 111, u 112, u 113, u 114, u 115, u 116, u 117, u 118, u 119, u 120, u 121, u 122, u 123, u 124, u 125, u 126, u 127, u 128, u 129, u 130, u 131, u 132, u 133, u 134, u 135, u 136, u 137, u 138, u 139, u 140, u 141, u 142, u 143, u 144, u 145, u 146, u 147, u 148, u 149, u 150, u 151, u 152, u 153, u 154, u 155, u 156, u 157, u 158, u 159, u 160, u 161, u 162, u 163, u 164, u 165, u 166, u 167, u 168, u 169, u 170, u 171, u 172, u 173, u 174, u 175, u 176, u 177, u 178, u 179, u 180, u 181, u 182, u 183, u 184, u 185, u 186, u 187, u 188, u 189, u 190, u 191, u 192, u 193, u 194, u 195, u 196, u 197, u 198, u 199, u 200, u 201, u 202, u 203, u 204, u 205, u 206, u 207, u 208, u 209, u 210, u 211, u 212, u 213, u 214, u 215, u 216, u 217, u 218, u 219, u 220, u 221, u 222, u 223, u 224, u 225, u 226, u 227, u 228, u 229, u 230, u 231, u 232, u 233, u 234, u 235, u 236, u 237, u 238, u 239, u 240, u 241, u 242, u 243, u 244, u 245, u 246, u 247, u 248, u 249, u 250, u 251, u 252, u 253, u 254, u 255, u 256, u 257, u 258, u 259, u 260, u 261, u 262, u 263, u 264, u 265, u 266, u 267, u 268, u 269, u 270, u 271, u 272, u 273, u 274, u 275, u 276, u 277, u 278, u 279, u 280, u 281, u 282, u 283, u 284, u 285, u 286, u 287, u 288, u 289, u 290, u 291, u 292, u 293, u 294, u 295, u 296, u 297, u 298, u 299, u 300, u 301, u 302, u 303, u 304, u 305, u 306, u 307, u 308, u 309, u 310, u 311, u 312, u 313, u 314, u 315, u 316, u 317, u 318, u 319, u 320, u 321, u 322, u 323, u 324], []⟩) Q0) ⟨#[ptr ab, .slice (some ⟨g, off, none⟩) rs.length cap, u 2, u 3, u 4, u 5, .slice LA ms.length lcap, ptr vb, .int .i64 k, u 9, u 10, u 11, u 12, u 13, u 14, u 15, u 16, u 17, u 18, u 19, u 20, u 21, u 22, u 23, u 24, u 25, u 26, u 27, u 28, u 29, u 30, u 31, u 32, u 33, u 34, u 35, u 36, u 37, u 38, u 39, u 40, u 41, u 42, u 43, u 44, u 45, u 46, u 47, u 48, u 49, u 50, u 51, u 52, u 53, u 54, u 55, u 56, u 57, u 58, u 59, u 60, u 61, u 62, u 63, u 64, u 65, u 66, u 67, u 68, u 69, u 70, u 71, u 72, u 73, u 74, u 75, u 76, u 77, u 78, u 79, u 80, u 81, u 82, u 83, u 84, u 85, u 86, u 87, u 88, u 89, u 90, u 91, u 92, u 93, u 94, u 95, u 96, u 97, u 98, u 99, u 100, u 101, u 102, u 103, u 104, u 105, u 106, u 107, u 108, u 109, u 110, u 111, u 112, u 113, u 114, u 115, u 116, u 117, u 118, u 119, u 120, u 121, u 122, u 123, u 124, u 125, u 126, u 127, u 128, u 129, u 130, u 131, u 132, u 133, u 134, u 135, u 136, u 137, u 138, u 139, u 140, u 141, u 142, u 143, u 144, u 145, u 146, u 147, u 148, u 149, u 150, u 151, u 152, u 153, u 154, u 155, u 156, u 157, u 158, u 159, u 160, u 161, u 162, u 163, u 164, u 165, u 166, u 167, u 168, u 169, u 170, u 171, u 172, u 173, u 174, u 175, u 176, u 177, u 178, u 179, u 180, u 181, u 182, u 183, u 184, u 185, u 186, u 187, u 188, u 189, u 190, u 191, u 192, u 193, u 194, u 195, u 196, u 197, u 198, u 199, u 200, u 201, u 202, u 203, u 204, u 205, u 206, u 207, u 208, u 209, u 210, u 211, u 212, u 213, u 214, u 215, u 216, u 217, u 218, u 219, u 220, u 221, u 222, u 223, u 224, u 225, u 226, u 227, u 228, u 229, u 230, u 231, u 232, u 233, u 234, u 235, u 236, u 237, u 238, u 239, u 240, u 241, u 242, u 243, u 244, u 245, u 246, u 247, u 248, u 249, u 250, u 251, u 252, u 253, u 254, u 255, u 256, u 257, u 258, u 259, u 260, u 261, u 262, u 263, u 264, u 265, u 266, u 267, u 268, u 269, u 270, u 271, u 272, u 273, u 274, u 275, u 276, u 277, u 278, u 279, u 280, u 281, u 282, u 283, u 284, u 285, u 286, u 287, u 288, u 289, u 290, u 291, u 292, u 293, u 294, u 295, u 296, u 297, u 298, u 299, u 300, u 301, u 302, u 303, u 304, u 305, u 306, u 307, u 308, u 309, u 310, u 311, u 312, u 313, u 314, u 315, u 316, u 317, u 318, u 319, u 320, u 321, u 322, u 323, u 324], []⟩ wr := by
  have hlt : k < rs.length := (List.getElem?_eq_some_iff.1 hr).1
  have hgl : g < wr.heap.size := Nat.lt_of_lt_of_le hgW hrel.cur.below0.size
  have hvbl : vb < wr.heap.size := hrel.hv.lt
  have hok := hR.ok r (List.mem_of_getElem? hr)
  have key : ∀ j, j < 6 → wr.cell? ⟨g, off + k * 6 + j, none⟩ = r.v[j]? := fun j hj => by
    obtain ⟨g', off', hA, _, hc⟩ := hR.get k r hr
    injection hA with hA
    injection hA with h1 h2
    subst h1; subst h2
    exact (hrel.cur.below0.cell (p := ⟨g, off + k * 6 + j, none⟩) hgW).trans (hc j hj)
  have r0 : wr.cell? ⟨g, off + k * 6, none⟩ = some (.int .i64 r.op) := key 0 (by decide)
  have r1 : wr.cell? ⟨g, off + k * 6 + 1, none⟩ = some (.int .i64 r.w) := key 1 (by decide)
  have r2 : wr.cell? ⟨g, off + k * 6 + 2, none⟩ = some (.int .u16 r.val) := key 2 (by decide)
  have r3 : wr.cell? ⟨g, off + k * 6 + 3, none⟩ = some (.int .u8 r.a) := key 3 (by decide)
  have r4 : wr.cell? ⟨g, off + k * 6 + 4, none⟩ = some (.int .u8 r.b) := key 4 (by decide)
  have r5 : wr.cell? ⟨g, off + k * 6 + 5, none⟩ = some (.int .u8 r.c) := key 5 (by decide)
  have hml := hrel.ml
  have zm := zero_made
  have R := Lib.hid hrel
  have HOK := Lib.hid hok
  clear hrel hR hr key hok
  obtain ⟨m0, hm0, k0⟩ := R.out.mok.at_ (show i0 < ms.length by omega)
  obtain ⟨m1_, hm1, k1⟩ := R.out.mok.at_ (show i1 < ms.length by omega)
  obtain ⟨m2, hm2, k2⟩ := R.out.mok.at_ (show i2 < ms.length by omega)
  obtain ⟨lg, lc, hLA, hlg, hlb, hlc1, hlc2, hc0⟩ := row_md R.out.row hm0
  injection hLA with hLA1 hLA2 hLA3
  subst hLA1; subst hLA3
  obtain ⟨lg', lc', hLB, _, _, _, _, hc1⟩ := row_md R.out.row hm1
  injection hLB with hLB1 hLB2 hLB3
  injection hLB1 with hLB1
  injection hLB1 with hLB1 _
  subst hLB1; subst hLB3
  obtain ⟨lg'', lc'', hLB, _, _, _, _, hc2⟩ := row_md R.out.row hm2
  injection hLB with hLB1 hLB2 hLB3
  injection hLB1 with hLB1
  injection hLB1 with hLB1 _
  subst hLB1; subst hLB3
  have a0 : wr.cell? ⟨lg, i0 * 11, none⟩ = some (.int .i64 m0.t) := hc0 0 (by decide)
  have a7 : wr.cell? ⟨lg, i0 * 11 + 7, none⟩ = some (.int .i64 m0.w) := hc0 7 (by decide)
  have b0 : wr.cell? ⟨lg, i1 * 11, none⟩ = some (.int .i64 m1_.t) := hc1 0 (by decide)
  have b7 : wr.cell? ⟨lg, i1 * 11 + 7, none⟩ = some (.int .i64 m1_.w) := hc1 7 (by decide)
  have d0 : wr.cell? ⟨lg, i2 * 11, none⟩ = some (.int .i64 m2.t) := hc2 0 (by decide)
  have d7 : wr.cell? ⟨lg, i2 * 11 + 7, none⟩ = some (.int .i64 m2.w) := hc2 7 (by decide)
  unfold maxLen at hlc2
  have HM0 := Lib.hid hm0
  have HM1 := Lib.hid hm1
  have HM2 := Lib.hid hm2
  have K0 := Lib.hid k0
  have K1 := Lib.hid k1
  have K2 := Lib.hid k2
  have hvA : IntKind.i64.wrap r.a = r.a := by have := HOK.out.a; exact IntWalk.i64_in _ (by omega)
  have hvB : IntKind.i64.wrap r.b = r.b := by have := HOK.out.b; exact IntWalk.i64_in _ (by omega)
  have hvC : IntKind.i64.wrap r.c = r.c := by have := HOK.out.c; exact IntWalk.i64_in _ (by omega)
  obtain ⟨oa0, oa1⟩ := HOK.out.a
  obtain ⟨ob0, ob1⟩ := HOK.out.b
  obtain ⟨oc0, oc1⟩ := HOK.out.c
  have g00 : (0 : Int) ≤ (i0 : Int) := by omega
  have g01 : (i0 : Int) < (ms.length : Int) := by omega
  have g10 : (0 : Int) ≤ (i1 : Int) := by omega
  have g11 : (i1 : Int) < (ms.length : Int) := by omega
  have g20 : (0 : Int) ≤ (i2 : Int) := by omega
  have g21 : (i2 : Int) < (ms.length : Int) := by omega
  have hml1 : (1 : Int) ≤ (ms.length : Int) := by omega
  have hz1 : ((ms.length : Int) == 0) = false := by simp; intro e; subst e; simp at hi0
  have hz2 : ¬ ms = [] := fun e => by subst e; simp at hi0
  have hz3 : (decide ((ms.length : Int) = 0)) = false := by simpa using hz2
  clear hm0 hm1 hm2 k0 k1 k2 hc0 hc1 hc2 hLA2 hLB2
  have t1 : (r.op == 1) = false := by simp; omega
  have t2 : (r.op == 2) = false := by simp; omega
  have t3 : (r.op == 3) = false := by simp; omega
  have t4 : (decide (4 ≤ r.op)) = true := by simp; omega
  have t15 : (decide (r.op ≤ 15)) = true := by simp; omega
  have t14 : (r.op == 14) = false := by simp; omega
  have t15' : (r.op == 15) = false := by simp; omega
  rw [wOf_of HM0.out] at hw
  rw [wOf_of HM1.out] at hw
  have q2' : (m0.w != m1_.w) = false := by simpa using hw
  have HW := Lib.hid hw
  clear hw
  have HO := Lib.hid ho
  clear ho
  have C2 : Hid (Cur W0 ((wr.alloc (.cells #[.int .i64 r.op, .int .i64 r.w, .int .u16 r.val, .int .u8 r.a, .int .u8 r.b, .int .u8 r.c] 35)).alloc (.cells #[.int .i64 0, .int .i64 r.op, .int .i64 r.w, .int .u16 r.val, .int .u8 r.a, .int .u8 r.b, .int .u8 r.c, .int .i64 0, .int .i64 i0, .int .i64 i1, .int .i64 i2] 38)) ab ns (Qm vb wr.heap.size (.slice (some ⟨lg, 0, none⟩) ms.length lcap))) := ((R.out.cur.mine _).mine _).less (fun b hb => by
    rcases hb with hb | hb | hb
    · exact .inl (.inl hb)
    · exact .inl (.inr hb)
    · exact .inr (by simpa using hb))
  have HRB2 : Hid (Has ((wr.alloc (.cells #[.int .i64 r.op, .int .i64 r.w, .int .u16 r.val, .int .u8 r.a, .int .u8 r.b, .int .u8 r.c] 35)).alloc (.cells #[.int .i64 0, .int .i64 r.op, .int .i64 r.w, .int .u16 r.val, .int .u8 r.a, .int .u8 r.b, .int .u8 r.c, .int .i64 0, .int .i64 i0, .int .i64 i1, .int .i64 i2] 38)) wr.heap.size 35 #[.int .i64 r.op, .int .i64 r.w, .int .u16 r.val, .int .u8 r.a, .int .u8 r.b, .int .u8 r.c]) := (Has.new wr 35 #[.int .i64 r.op, .int .i64 r.w, .int .u16 r.val, .int .u8 r.a, .int .u8 r.b, .int .u8 r.c]).same (alloc_other (by simp))
  have HMB2 : Hid (Has ((wr.alloc (.cells #[.int .i64 r.op, .int .i64 r.w, .int .u16 r.val, .int .u8 r.a, .int .u8 r.b, .int .u8 r.c] 35)).alloc (.cells #[.int .i64 0, .int .i64 r.op, .int .i64 r.w, .int .u16 r.val, .int .u8 r.a, .int .u8 r.b, .int .u8 r.c, .int .i64 0, .int .i64 i0, .int .i64 i1, .int .i64 i2] 38)) (wr.heap.size + 1) 38 #[.int .i64 0, .int .i64 r.op, .int .i64 r.w, .int .u16 r.val, .int .u8 r.a, .int .u8 r.b, .int .u8 r.c, .int .i64 0, .int .i64 i0, .int .i64 i1, .int .i64 i2]) := by
    have := Has.new (wr.alloc (.cells #[.int .i64 r.op, .int .i64 r.w, .int .u16 r.val, .int .u8 r.a, .int .u8 r.b, .int .u8 r.c] 35)) 38 #[.int .i64 0, .int .i64 r.op, .int .i64 r.w, .int .u16 r.val, .int .u8 r.a, .int .u8 r.b, .int .u8 r.c, .int .i64 0, .int .i64 i0, .int .i64 i1, .int .i64 i2]
    rw [show (wr.alloc (.cells #[.int .i64 r.op, .int .i64 r.w, .int .u16 r.val, .int .u8 r.a, .int .u8 r.b, .int .u8 r.c] 35)).heap.size = wr.heap.size + 1 by simp] at this
    exact this
  have HVB2 : Hid (Has ((wr.alloc (.cells #[.int .i64 r.op, .int .i64 r.w, .int .u16 r.val, .int .u8 r.a, .int .u8 r.b, .int .u8 r.c] 35)).alloc (.cells #[.int .i64 0, .int .i64 r.op, .int .i64 r.w, .int .u16 r.val, .int .u8 r.a, .int .u8 r.b, .int .u8 r.c, .int .i64 0, .int .i64 i0, .int .i64 i1, .int .i64 i2] 38)) vb 62 (va vs)) := (R.out.hv.same (alloc_other R.out.hv.lt)).same (alloc_other (by have := R.out.hv.lt; simp; omega))
  have HROW2 : Hid (((wr.alloc (.cells #[.int .i64 r.op, .int .i64 r.w, .int .u16 r.val, .int .u8 r.a, .int .u8 r.b, .int .u8 r.c] 35)).alloc (.cells #[.int .i64 0, .int .i64 r.op, .int .i64 r.w, .int .u16 r.val, .int .u8 r.a, .int .u8 r.b, .int .u8 r.c, .int .i64 0, .int .i64 i0, .int .i64 i1, .int .i64 i2] 38)).ownsRow W0.heap.size 38 11 (.slice (some ⟨lg, 0, none⟩) ms.length lcap) ms.length (mdCells ms)) := row_same R.out.row (fun b hb => by
    obtain ⟨cur, hc⟩ := row_block R.out.row hb
    exact (alloc_other (by have := hc.lt; simp; omega)).trans (alloc_other hc.lt))
  have hne1 : vb ≠ wr.heap.size := by omega
  have hne2 : vb ≠ wr.heap.size + 1 := by omega
  conv => arg 2; whnf
  go_wp2_with fail
  go_region_held3 (fun w' => w'.cell? ⟨wr.heap.size, 3, none⟩ = some (.int .u8 r.a) ∧ w'.cell? ⟨wr.heap.size, 4, none⟩ = some (.int .u8 r.b) ∧ w'.cell? ⟨wr.heap.size, 5, none⟩ = some (.int .u8 r.c)) (go_keep) (fail)
  go_wp2_with fail
  go_quiet (fail)
  go_wp2_with fail
  go_quiet (fail)
  go_wp2_with fail
  refine (l_two W0 _ ab ns (Qm vb wr.heap.size (.slice (some ⟨lg, 0, none⟩) ms.length lcap)) r.op m0.t m1_.t (by exact C2.out.alike rfl rfl rfl rfl) (by have := R.out.nl; omega) (by have := HO.out; omega) (by have := HO.out; omega) K0.out.t K1.out.t (K1.out.w.trans (HW.out.symm.trans K0.out.w.symm))).mono ?_
  rintro e w3 ⟨x, ns3, rfl, N3, hx3⟩
  have C3 := Lib.hid N3.cur
  have HTW : Hid (wdt ns3 x = m0.w) := hx3.w.trans (by show outV r.op (wdt ns m0.t) = _; have := HO.out; unfold outV; rw [if_neg (by omega), if_neg (by omega)]; exact K0.out.w)
  have HMOK := Lib.hid (R.out.mok.ext N3)
  have HVOK := Lib.hid (R.out.vok.ext N3.ext hx3.n)
  have HNL : Hid (ns3.length ≤ k + 1) := by have := N3.len; have := R.out.nl; show ns3.length ≤ k + 1; omega
  have HMD : Hid (MdOk ns3 ms ms.length ⟨x, r, m0.w, i0, i1, i2⟩) := by
    refine ⟨hx3.t, HTW.out, by show 1 ≤ r.op; have := HO.out; omega, by show r.op ≤ 18; have := HO.out; omega, HOK.out, fun _ => ⟨hi0, hi1, hi2⟩, fun env => ?_⟩
    show V ns3 env x = _
    rw [hx3.v, tOf_of HM0.out, tOf_of HM1.out, wOf_of HM0.out, N3.V env K0.out.t, N3.V env K1.out.t]
    unfold nv lv
    have := HO.out
    simp only []
    rw [K0.out.w, if_neg (by omega), if_neg (by omega), if_neg (by omega), if_neg (by omega), if_neg (show ¬ r.op = 1 by omega), if_neg (show ¬ r.op = 2 by omega), if_neg (show ¬ r.op = 16 by omega), if_neg (show ¬ (r.op = 17 ∨ r.op = 18) by omega)]
  have HMB3 : Hid (Has w3 (wr.heap.size + 1) 38 #[.int .i64 0, .int .i64 r.op, .int .i64 r.w, .int .u16 r.val, .int .u8 r.a, .int .u8 r.b, .int .u8 r.c, .int .i64 0, .int .i64 i0, .int .i64 i1, .int .i64 i2]) := HMB2.out.same (N3.q _ (.inr (.inr rfl)))
  have HRB3 : Hid (Has w3 wr.heap.size 35 #[.int .i64 r.op, .int .i64 r.w, .int .u16 r.val, .int .u8 r.a, .int .u8 r.b, .int .u8 r.c]) := HRB2.out.same (N3.q _ (.inr (.inl rfl)))
  have HVB3 : Hid (Has w3 vb 62 (va vs)) := HVB2.out.same (N3.q _ (.inl (.inl rfl)))
  have HROW3 : Hid (w3.ownsRow W0.heap.size 38 11 (.slice (some ⟨lg, 0, none⟩) ms.length lcap) ms.length (mdCells ms)) := row_same HROW2.out (fun b hb => N3.q _ (.inl (.inr hb)))
  have z0 : w3.cell? ⟨wr.heap.size + 1, 0, none⟩ = some (.int .i64 0) := HMB3.out.cell 0
  have z1 : w3.cell? ⟨wr.heap.size + 1, 1, none⟩ = some (.int .i64 r.op) := HMB3.out.cell 1
  have z2 : w3.cell? ⟨wr.heap.size + 1, 2, none⟩ = some (.int .i64 r.w) := HMB3.out.cell 2
  have z3 : w3.cell? ⟨wr.heap.size + 1, 3, none⟩ = some (.int .u16 r.val) := HMB3.out.cell 3
  have z4 : w3.cell? ⟨wr.heap.size + 1, 4, none⟩ = some (.int .u8 r.a) := HMB3.out.cell 4
  have z5 : w3.cell? ⟨wr.heap.size + 1, 5, none⟩ = some (.int .u8 r.b) := HMB3.out.cell 5
  have z6 : w3.cell? ⟨wr.heap.size + 1, 6, none⟩ = some (.int .u8 r.c) := HMB3.out.cell 6
  have z7 : w3.cell? ⟨wr.heap.size + 1, 7, none⟩ = some (.int .i64 0) := HMB3.out.cell 7
  have z8 : w3.cell? ⟨wr.heap.size + 1, 8, none⟩ = some (.int .i64 i0) := HMB3.out.cell 8
  have z9 : w3.cell? ⟨wr.heap.size + 1, 9, none⟩ = some (.int .i64 i1) := HMB3.out.cell 9
  have z10 : w3.cell? ⟨wr.heap.size + 1, 10, none⟩ = some (.int .i64 i2) := HMB3.out.cell 10
  have zfr : ∀ i, w3.frozen? ⟨wr.heap.size + 1, i, none⟩ = false := HMB3.out.free
  have rr0 : w3.cell? ⟨wr.heap.size, 0, none⟩ = some (.int .i64 r.op) := HRB3.out.cell 0
  have rr1 : w3.cell? ⟨wr.heap.size, 1, none⟩ = some (.int .i64 r.w) := HRB3.out.cell 1
  have rr2 : w3.cell? ⟨wr.heap.size, 2, none⟩ = some (.int .u16 r.val) := HRB3.out.cell 2
  clear N3 hx3
  have C4 : Hid (Cur W0 ((w3.setCell ⟨wr.heap.size + 1, 0, none⟩ (.int .i64 x)).setCell ⟨wr.heap.size + 1, 7, none⟩ (.int .i64 m0.w)) ab ns3 (Qm vb wr.heap.size (.slice (some ⟨lg, 0, none⟩) ms.length lcap))) := ((C3.out.store (p := ⟨wr.heap.size + 1, 0, none⟩) (.inr (.inr rfl)) (by have := R.out.cur.below0.size; show W0.heap.size ≤ wr.heap.size + 1; omega) (.int .i64 x)).store (p := ⟨wr.heap.size + 1, 7, none⟩) (.inr (.inr rfl)) (by have := R.out.cur.below0.size; show W0.heap.size ≤ wr.heap.size + 1; omega) (.int .i64 m0.w))
  have HMB4 : Hid (Has ((w3.setCell ⟨wr.heap.size + 1, 0, none⟩ (.int .i64 x)).setCell ⟨wr.heap.size + 1, 7, none⟩ (.int .i64 m0.w)) (wr.heap.size + 1) 38 #[.int .i64 x, .int .i64 r.op, .int .i64 r.w, .int .u16 r.val, .int .u8 r.a, .int .u8 r.b, .int .u8 r.c, .int .i64 m0.w, .int .i64 i0, .int .i64 i1, .int .i64 i2]) := ((HMB3.out.put 0 (.int .i64 x)).put 7 (.int .i64 m0.w))
  have HVB4 : Hid (Has ((w3.setCell ⟨wr.heap.size + 1, 0, none⟩ (.int .i64 x)).setCell ⟨wr.heap.size + 1, 7, none⟩ (.int .i64 m0.w)) vb 62 (va vs)) := HVB3.out.same ((set_other (p := ⟨wr.heap.size + 1, 7, none⟩) hne2).trans (set_other (p := ⟨wr.heap.size + 1, 0, none⟩) hne2))
  have HROW4 : Hid (((w3.setCell ⟨wr.heap.size + 1, 0, none⟩ (.int .i64 x)).setCell ⟨wr.heap.size + 1, 7, none⟩ (.int .i64 m0.w)).ownsRow W0.heap.size 38 11 (.slice (some ⟨lg, 0, none⟩) ms.length lcap) ms.length (mdCells ms)) := row_same HROW3.out (fun b hb => by
    have hb2 : lg = b := by simpa [Value.ownBlock] using hb
    have hne : b ≠ wr.heap.size + 1 := by omega
    exact ((set_other (p := ⟨wr.heap.size + 1, 7, none⟩) hne).trans (set_other (p := ⟨wr.heap.size + 1, 0, none⟩) hne)))
  have HWD := fun (W : World) (C : Cur W0 W ab ns3 (Qm vb wr.heap.size (.slice (some ⟨lg, 0, none⟩) ms.length lcap))) => Lib.hid (r_width C x)
  rw [HTW.out] at HWD
  go_wp2_with (fail)
  have q0 : ((w3.setCell ⟨wr.heap.size + 1, 0, none⟩ (.int .i64 x)).setCell ⟨wr.heap.size + 1, 7, none⟩ (.int .i64 m0.w)).cell? ⟨wr.heap.size + 1, 0, none⟩ = some (.int .i64 x) := HMB4.out.cell 0
  have q7 : ((w3.setCell ⟨wr.heap.size + 1, 0, none⟩ (.int .i64 x)).setCell ⟨wr.heap.size + 1, 7, none⟩ (.int .i64 m0.w)).cell? ⟨wr.heap.size + 1, 7, none⟩ = some (.int .i64 m0.w) := HMB4.out.cell 7
  go_region_held3 (fun w' => w'.cell? ⟨wr.heap.size + 1, 0, none⟩ = some (.int .i64 x) ∧ w'.cell? ⟨wr.heap.size + 1, 7, none⟩ = some (.int .i64 m0.w)) (go_keep) (first | (go_at_call 14; refine (HWD _ (by exact C4.out.alike rfl rfl rfl rfl)).out.mono ?_; rintro e w5 ⟨rfl, hb5⟩; have C5 := Lib.hid (Cur.below (by exact C4.out.alike rfl rfl rfl rfl) hb5); have HMB5 : Hid (Has w5 (wr.heap.size + 1) 38 #[.int .i64 x, .int .i64 r.op, .int .i64 r.w, .int .u16 r.val, .int .u8 r.a, .int .u8 r.b, .int .u8 r.c, .int .i64 m0.w, .int .i64 i0, .int .i64 i1, .int .i64 i2]) := (HMB4.out.same (by exact hb5.block _ HMB4.out.lt)); have HVB5 : Hid (Has w5 vb 62 (va vs)) := (HVB4.out.same (by exact hb5.block _ HVB4.out.lt)); have HROW5 : Hid (w5.ownsRow W0.heap.size 38 11 (.slice (some ⟨lg, 0, none⟩) ms.length lcap) ms.length (mdCells ms)) := (row_same HROW4.out (fun b hb => by (obtain ⟨cur, hc⟩ := row_block HROW4.out hb; exact hb5.block _ hc.lt))); have y0 : w5.cell? ⟨wr.heap.size + 1, 0, none⟩ = some (.int .i64 x) := HMB5.out.cell 0; have y1 : w5.cell? ⟨wr.heap.size + 1, 1, none⟩ = some (.int .i64 r.op) := HMB5.out.cell 1; have y2 : w5.cell? ⟨wr.heap.size + 1, 2, none⟩ = some (.int .i64 r.w) := HMB5.out.cell 2; have y3 : w5.cell? ⟨wr.heap.size + 1, 3, none⟩ = some (.int .u16 r.val) := HMB5.out.cell 3; have y4 : w5.cell? ⟨wr.heap.size + 1, 4, none⟩ = some (.int .u8 r.a) := HMB5.out.cell 4; have y5 : w5.cell? ⟨wr.heap.size + 1, 5, none⟩ = some (.int .u8 r.b) := HMB5.out.cell 5; have y6 : w5.cell? ⟨wr.heap.size + 1, 6, none⟩ = some (.int .u8 r.c) := HMB5.out.cell 6; have y7 : w5.cell? ⟨wr.heap.size + 1, 7, none⟩ = some (.int .i64 m0.w) := HMB5.out.cell 7; have y8 : w5.cell? ⟨wr.heap.size + 1, 8, none⟩ = some (.int .i64 i0) := HMB5.out.cell 8; have y9 : w5.cell? ⟨wr.heap.size + 1, 9, none⟩ = some (.int .i64 i1) := HMB5.out.cell 9; have y10 : w5.cell? ⟨wr.heap.size + 1, 10, none⟩ = some (.int .i64 i2) := HMB5.out.cell 10; have hsz5 : W0.heap.size ≤ w5.heap.size := C5.out.below0.size; clear hb5))
  obtain ⟨iM, hi, hz0, hz1', hz2'⟩ := info_parts infoMade
  have HI := Lib.hid (And.intro hi (And.intro hz0 (And.intro hz1' hz2')))
  clear hi hz0 hz1' hz2'
  go_wp2_with (at_builtin; refine wpList_append_lies _ rfl _ _ _ rfl W0.heap.size 38 iM _ 11 64 Tryd.underlying28 HI.out.1 HI.out.2.1 HI.out.2.2.1 HI.out.2.2.2 rfl (by omega) (.slice (some ⟨lg, 0, none⟩) ms.length lcap) ms.length (mdCells ms) rfl (by exact row_alike (HROW5.out.alloc _) rfl) ⟨w5.heap.size, 0, none⟩ 1 1 (⟨x, r, m0.w, i0, i1, i2⟩ : Md).v rfl rfl (by exact World.news_of_block (cs := #[.int .i64 x, .int .i64 r.op, .int .i64 r.w, .int .u16 r.val, .int .u8 r.a, .int .u8 r.b, .int .u8 r.c, .int .i64 m0.w, .int .i64 i0, .int .i64 i1, .int .i64 i2]) (t := 38) (fr := (0, 0)) (new_at (W := w5) rfl rfl)) (by simp [Md.v, Value.oneCell']) (by omega) (by unfold maxLen; omega) (by omega) (by simp; omega) (w5.heap.size + 1) (by simp) ?_; intro g6 cap6 w6 hown6 hg6 hat6 hlt6; have HO6 := Lib.hid hown6; have HG6 : Hid ((w5.alloc (.cells #[.int .i64 x, .int .i64 r.op, .int .i64 r.w, .int .u16 r.val, .int .u8 r.a, .int .u8 r.b, .int .u8 r.c, .int .i64 m0.w, .int .i64 i0, .int .i64 i1, .int .i64 i2] 38)).grownBy w6 (some lg)) := ⟨hg6.os, hg6.tape, hg6.output, hg6.size, hg6.block⟩; have HAT := Lib.hid hat6; clear hown6 hg6 hat6)
  refine ⟨⟨k + 1, ns3, ms ++ [(⟨x, r, m0.w, i0, i1, i2⟩ : Md)], vs, (.slice (some ⟨g6, 0, none⟩) (ms.length + 1) cap6), by omega, rfl, rfl, rfl, rfl, rfl, rfl, by first | rfl | (show some (Value.int .i64 _) = _; simp), ?_⟩, by simp [Wmu, intOf]; omega⟩
  have hlgW : W0.heap.size ≤ lg := hlb
  refine ⟨(C5.out.alloc _).grown2 HG6.out (fun b hb => ?_) (fun b hb => ?_), ?_, HVOK.out, ?_, HMOK.out.snoc HMD.out, by have := HNL.out; omega, by simp; omega, R.out.vge⟩
  · injection hb with hb; subst hb; exact ⟨.inl (.inr rfl), hlgW⟩
  · rcases hb with hb | hb
    · exact .inl (.inl (.inl hb))
    · have hb' : g6 = b := by simpa [Value.ownBlock] using hb
      subst hb'
      rcases HAT.out with e | e
      · have : lg = g6 := by simpa [Value.ownBlock] using e
        exact .inl (.inl (.inr (by rw [this]; rfl)))
      · exact .inr ⟨by simp; omega, hlt6⟩
  · have hv5 := HVB5.out
    refine (hv5.same (w' := w5.alloc (.cells #[.int .i64 x, .int .i64 r.op, .int .i64 r.w, .int .u16 r.val, .int .u8 r.a, .int .u8 r.b, .int .u8 r.c, .int .i64 m0.w, .int .i64 i0, .int .i64 i1, .int .i64 i2] 38)) (alloc_other hv5.lt)).same (HG6.out.block _ (by have := hv5.lt; simp; omega) (fun e => ?_))
    injection e with e
    obtain ⟨cur, hc⟩ := row_block HROW5.out (g := lg) rfl
    exact hc.unlike hv5 (by decide) e.symm
  · have := HO6.out
    rw [show (ms ++ [(⟨x, r, m0.w, i0, i1, i2⟩ : Md)]).length = ms.length + 1 by simp, mdCells_snoc]
    exact this

end Go.Proofs.YtgbmiphaabeodaaDoor
