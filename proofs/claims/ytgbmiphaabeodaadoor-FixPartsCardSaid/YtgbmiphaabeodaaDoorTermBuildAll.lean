/-
  Build of the law's package: its round joined, its loop, its contract: rows one by one; what is answered is what was made, with true.
-/
import Derived.Test.YtgbmiphaabeodaaDoorTermBM1
import Derived.Test.YtgbmiphaabeodaaDoorTermBM2
import Derived.Test.YtgbmiphaabeodaaDoorTermBM3
import Derived.Test.YtgbmiphaabeodaaDoorTermBM4
import Derived.Test.YtgbmiphaabeodaaDoorTermBM5
namespace Go.Proofs.YtgbmiphaabeodaaDoor
open Go.ChangeShapes Go.WideShapes Go.ChangeAt Go.RowKit
set_option linter.unusedVariables false
attribute [local go_sem ↓] Go.wp_at_zero Go.wp_at_succ

set_option maxRecDepth 1000000 in
theorem frame5 (t : Array Value) (hs : t.size = 325) {p0 p1 p6 p7 p8 : Value} (h0 : t[0]? = some p0) (h1 : t[1]? = some p1) (h6 : t[6]? = some p6) (h7 : t[7]? = some p7) (h8 : t[8]? = some p8) : ∃ u : Nat → Value, t = #[p0, p1, u 2, u 3, u 4, u 5, p6, p7, p8, u 9, u 10, u 11, u 12, u 13, u 14, u 15, u 16, u 17, u 18, u 19, u 20, u 21, u 22, u 23, u 24, u 25, u 26, u 27, u 28, u 29, u 30, u 31, u 32, u 33, u 34, u 35, u 36, u 37, u 38, u 39, u 40, u 41, u 42, u 43, u 44, u 45, u 46, u 47, u 48, u 49, u 50, u 51, u 52, u 53, u 54, u 55, u 56, u 57, u 58, u 59, u 60, u 61, u 62, u 63, u 64, u 65, u 66, u 67, u 68, u 69, u 70, u 71, u 72, u 73, u 74, u 75, u 76, u 77, u 78, u 79, u 80, u 81, u 82, u 83, u 84, u 85, u 86, u 87, u 88, u 89, u 90, u 91, u 92, u 93, u 94, u 95, u 96, u 97, u 98, u 99, u 100, u 101, u 102, u 103, u 104, u 105, u 106, u 107, u 108, u 109, u 110, u 111, u 112, u 113, u 114, u 115, u 116, u 117, u 118, u 119, u 120, u 121, u 122, u 123, u 124, u 125, u 126, u 127, u 128, u 129, u 130, u 131, u 132, u 133, u 134, u 135, u 136, u 137, u 138, u 139, u 140, u 141, u 142, u 143, u 144, u 145, u 146, u 147, u 148, u 149, u 150, u 151, u 152, u 153, u 154, u 155, u 156, u 157, u 158, u 159, u 160, u 161, u 162, u 163, u 164, u 165, u 166, u 167, u 168, u 169, u 170, u 171, u 172, u 173, u 174, u 175, u 176, u 177, u 178, u 179, u 180, u 181, u 182, u 183, u 184, u 185, u 186, u 187, u 188, u 189, u 190, u 191, u 192, u 193, u 194, u 195, u 196, u 197, u 198, u 199, u 200, u 201, u 202, u 203, u 204, u 205, u 206, u 207, u 208, u 209, u 210, u 211, u 212, u 213, u 214, u 215, u 216, u 217, u 218, u 219, u 220, u 221, u 222, u 223, u 224, u 225, u 226, u 227, u 228, u 229, u 230, u 231, u 232, u 233, u 234, u 235, u 236, u 237, u 238, u 239, u 240, u 241, u 242, u 243, u 244, u 245, u 246, u 247, u 248, u 249, u 250, u 251, u 252, u 253, u 254, u 255, u 256, u 257, u 258, u 259, u 260, u 261, u 262, u 263, u 264, u 265, u 266, u 267, u 268, u 269, u 270, u 271, u 272, u 273, u 274, u 275, u 276, u 277, u 278, u 279, u 280, u 281, u 282, u 283, u 284, u 285, u 286, u 287, u 288, u 289, u 290, u 291, u 292, u 293, u 294, u 295, u 296, u 297, u 298, u 299, u 300, u 301, u 302, u 303, u 304, u 305, u 306, u 307, u 308, u 309, u 310, u 311, u 312, u 313, u 314, u 315, u 316, u 317, u 318, u 319, u 320, u 321, u 322, u 323, u 324] := by
  have e0 : t.getD 0 undef = p0 := by rw [Array.getD_eq_getD_getElem?, h0]; rfl
  have e1 : t.getD 1 undef = p1 := by rw [Array.getD_eq_getD_getElem?, h1]; rfl
  have e6 : t.getD 6 undef = p6 := by rw [Array.getD_eq_getD_getElem?, h6]; rfl
  have e7 : t.getD 7 undef = p7 := by rw [Array.getD_eq_getD_getElem?, h7]; rfl
  have e8 : t.getD 8 undef = p8 := by rw [Array.getD_eq_getD_getElem?, h8]; rfl
  refine ⟨fun i => t.getD i undef, (arr_eta t hs).trans ?_⟩
  rw [e0, e1, e6, e7, e8]
set_option maxRecDepth 1000000 in
theorem frame1 (t : Array Value) (hs : t.size = 325) {p6 : Value} (h6 : t[6]? = some p6) : ∃ u : Nat → Value, t = #[u 0, u 1, u 2, u 3, u 4, u 5, p6, u 7, u 8, u 9, u 10, u 11, u 12, u 13, u 14, u 15, u 16, u 17, u 18, u 19, u 20, u 21, u 22, u 23, u 24, u 25, u 26, u 27, u 28, u 29, u 30, u 31, u 32, u 33, u 34, u 35, u 36, u 37, u 38, u 39, u 40, u 41, u 42, u 43, u 44, u 45, u 46, u 47, u 48, u 49, u 50, u 51, u 52, u 53, u 54, u 55, u 56, u 57, u 58, u 59, u 60, u 61, u 62, u 63, u 64, u 65, u 66, u 67, u 68, u 69, u 70, u 71, u 72, u 73, u 74, u 75, u 76, u 77, u 78, u 79, u 80, u 81, u 82, u 83, u 84, u 85, u 86, u 87, u 88, u 89, u 90, u 91, u 92, u 93, u 94, u 95, u 96, u 97, u 98, u 99, u 100, u 101, u 102, u 103, u 104, u 105, u 106, u 107, u 108, u 109, u 110, u 111, u 112, u 113, u 114, u 115, u 116, u 117, u 118, u 119, u 120, u 121, u 122, u 123, u 124, u 125, u 126, u 127, u 128, u 129, u 130, u 131, u 132, u 133, u 134, u 135, u 136, u 137, u 138, u 139, u 140, u 141, u 142, u 143, u 144, u 145, u 146, u 147, u 148, u 149, u 150, u 151, u 152, u 153, u 154, u 155, u 156, u 157, u 158, u 159, u 160, u 161, u 162, u 163, u 164, u 165, u 166, u 167, u 168, u 169, u 170, u 171, u 172, u 173, u 174, u 175, u 176, u 177, u 178, u 179, u 180, u 181, u 182, u 183, u 184, u 185, u 186, u 187, u 188, u 189, u 190, u 191, u 192, u 193, u 194, u 195, u 196, u 197, u 198, u 199, u 200, u 201, u 202, u 203, u 204, u 205, u 206, u 207, u 208, u 209, u 210, u 211, u 212, u 213, u 214, u 215, u 216, u 217, u 218, u 219, u 220, u 221, u 222, u 223, u 224, u 225, u 226, u 227, u 228, u 229, u 230, u 231, u 232, u 233, u 234, u 235, u 236, u 237, u 238, u 239, u 240, u 241, u 242, u 243, u 244, u 245, u 246, u 247, u 248, u 249, u 250, u 251, u 252, u 253, u 254, u 255, u 256, u 257, u 258, u 259, u 260, u 261, u 262, u 263, u 264, u 265, u 266, u 267, u 268, u 269, u 270, u 271, u 272, u 273, u 274, u 275, u 276, u 277, u 278, u 279, u 280, u 281, u 282, u 283, u 284, u 285, u 286, u 287, u 288, u 289, u 290, u 291, u 292, u 293, u 294, u 295, u 296, u 297, u 298, u 299, u 300, u 301, u 302, u 303, u 304, u 305, u 306, u 307, u 308, u 309, u 310, u 311, u 312, u 313, u 314, u 315, u 316, u 317, u 318, u 319, u 320, u 321, u 322, u 323, u 324] := by
  have e6 : t.getD 6 undef = p6 := by rw [Array.getD_eq_getD_getElem?, h6]; rfl
  refine ⟨fun i => t.getD i undef, (arr_eta t hs).trans ?_⟩
  rw [e6]
/-- What holds at the loop's end. -/
def WX (W0 : World) (ab vb : Nat) (rs : List Rw) (a : Act) (w : World) : Prop :=
  a.defers = [] ∧ a.tmps.size = 325 ∧ ∃ (ns : List Nd) (ms : List Md) (vs : List Int) (lv : Value), a.tmps[0]? = some (ptr ab) ∧ a.tmps[6]? = some lv ∧ BRel W0 w ab vb rs.length lv ns ms vs
set_option maxHeartbeats 8000000 in
set_option maxRecDepth 1000000 in
theorem bend (W0 wr : World) (ab vb cap lcap : Nat) (A LA : Option Addr) (rs : List Rw) (ns : List Nd) (ms : List Md) (vs : List Int) (u : Nat → Value) (Q0 : Exit → Act → World → Prop)
    (hrel : BRel W0 wr ab vb rs.length (.slice LA ms.length lcap) ns ms vs) (hn : rs.length ≤ 200) (hq : ∀ a w, WX W0 ab vb rs a w → Q0 (.exit 0) a w) :
    Code.wp Tryd.prog bbody (Exit.then (fun a' w'' => WI W0 ab vb cap A rs a' w'' ∧ Wmu rs.length a' < Wmu rs.length ⟨#[ptr ab, .slice A rs.length cap, u 2, u 3, u 4, u 5, .slice LA ms.length lcap, ptr vb, .int .i64 rs.length, u 9, u 10, u 11, u 12, u 13, u 14, u 15, u 16, u 17, u 18, u 19, u 20, u 21, u 22, u 23, u 24, u 25, u 26, u 27, u 28, u 29, u 30, u 31, u 32, u 33, u 34, u 35, u 36, u 37, u 38, u 39, u 40, u 41, u 42, u 43, u 44, u 45, u 46, u 47, u 48, u 49, u 50, u 51, u 52, u 53, u 54, u 55, u 56, u 57, u 58, u 59, u 60, u 61, u 62, u 63, u 64, u 65, u 66, u 67, u 68, u 69, u 70, u 71, u 72, u 73, u 74, u 75, u 76, u 77, u 78, u 79, u 80, u 81, u 82, u 83, u 84, u 85, u 86, u 87, u 88, u 89, u 90, u 91, u 92, u 93, u 94, u 95, u 96, u 97, u 98, u 99, u 100, u 101, u 102, u 103, u 104, u 105, u 106, u 107, u 108, u 109, u 110, u 111, u 112, u 113, u 114, u 115, u 116, u 117, u 118, u 119, u 120, u 121, u 122, u 123, u 124, u 125, u 126, u 127, u 128, u 129, u 130, u 131, u 132, u 133, u 134, u 135, u 136, u 137, u 138, u 139, u 140, u 141, u 142, u 143, u 144, u 145, u 146, u 147, u 148, u 149, u 150, u 151, u 152, u 153, u 154, u 155, u 156, u 157, u 158, u 159, u 160, u 161, u 162, u 163, u 164, u 165, u 166, u 167, u 168, u 169, u 170, u 171, u 172, u 173, u 174, u 175, u 176, u 177, u 178, u 179, u 180, u 181, u 182, u 183, u 184, u 185, u 186, u 187, u 188, u 189, u 190, u 191, u 192, u 193, u 194, u 195, u 196, u 197, u 198, u 199, u 200, u 201, u 202, u 203, u 204, u 205, u 206, u 207, u 208, u 209, u 210, u 211, u 212, u 213, u 214, u 215, u 216, u 217, u 218, u 219, u 220, u 221, u 222, u 223, u 224, u 225, u 226, u 227, u 228, u 229, u 230, u 231, u 232, u 233, u 234, u 235, u 236, u 237, u 238, u 239, u 240, u 241, u 242, u 243, u 244, u 245, u 246, u 247, u 248, u 249, u 250, u 251, u 252, u 253, u 254, u 255, u 256, u 257, u 258, u 259, u 260, u 261, u 262, u 263, u 264, u 265, u 266, u 267, u 268, u 269, u 270, u 271, u 272, u 273, u 274, u 275, u 276, u 277, u 278, u 279, u 280, u 281, u 282, u 283, u 284, u 285, u 286, u 287, u 288, u 289, u 290, u 291, u 292, u 293, u 294, u 295, u 296, u 297, u 298, u 299, u 300, u 301, u 302, u 303, u 304, u 305, u 306, u 307, u 308, u 309, u 310, u 311, u 312, u 313, u 314, u 315, u 316, u 317, u 318, u 319, u 320, u 321, u 322, u 323, u 324], []⟩) Q0) ⟨#[ptr ab, .slice A rs.length cap, u 2, u 3, u 4, u 5, .slice LA ms.length lcap, ptr vb, .int .i64 rs.length, u 9, u 10, u 11, u 12, u 13, u 14, u 15, u 16, u 17, u 18, u 19, u 20, u 21, u 22, u 23, u 24, u 25, u 26, u 27, u 28, u 29, u 30, u 31, u 32, u 33, u 34, u 35, u 36, u 37, u 38, u 39, u 40, u 41, u 42, u 43, u 44, u 45, u 46, u 47, u 48, u 49, u 50, u 51, u 52, u 53, u 54, u 55, u 56, u 57, u 58, u 59, u 60, u 61, u 62, u 63, u 64, u 65, u 66, u 67, u 68, u 69, u 70, u 71, u 72, u 73, u 74, u 75, u 76, u 77, u 78, u 79, u 80, u 81, u 82, u 83, u 84, u 85, u 86, u 87, u 88, u 89, u 90, u 91, u 92, u 93, u 94, u 95, u 96, u 97, u 98, u 99, u 100, u 101, u 102, u 103, u 104, u 105, u 106, u 107, u 108, u 109, u 110, u 111, u 112, u 113, u 114, u 115, u 116, u 117, u 118, u 119, u 120, u 121, u 122, u 123, u 124, u 125, u 126, u 127, u 128, u 129, u 130, u 131, u 132, u 133, u 134, u 135, u 136, u 137, u 138, u 139, u 140, u 141, u 142, u 143, u 144, u 145, u 146, u 147, u 148, u 149, u 150, u 151, u 152, u 153, u 154, u 155, u 156, u 157, u 158, u 159, u 160, u 161, u 162, u 163, u 164, u 165, u 166, u 167, u 168, u 169, u 170, u 171, u 172, u 173, u 174, u 175, u 176, u 177, u 178, u 179, u 180, u 181, u 182, u 183, u 184, u 185, u 186, u 187, u 188, u 189, u 190, u 191, u 192, u 193, u 194, u 195, u 196, u 197, u 198, u 199, u 200, u 201, u 202, u 203, u 204, u 205, u 206, u 207, u 208, u 209, u 210, u 211, u 212, u 213, u 214, u 215, u 216, u 217, u 218, u 219, u 220, u 221, u 222, u 223, u 224, u 225, u 226, u 227, u 228, u 229, u 230, u 231, u 232, u 233, u 234, u 235, u 236, u 237, u 238, u 239, u 240, u 241, u 242, u 243, u 244, u 245, u 246, u 247, u 248, u 249, u 250, u 251, u 252, u 253, u 254, u 255, u 256, u 257, u 258, u 259, u 260, u 261, u 262, u 263, u 264, u 265, u 266, u 267, u 268, u 269, u 270, u 271, u 272, u 273, u 274, u 275, u 276, u 277, u 278, u 279, u 280, u 281, u 282, u 283, u 284, u 285, u 286, u 287, u 288, u 289, u 290, u 291, u 292, u 293, u 294, u 295, u 296, u 297, u 298, u 299, u 300, u 301, u 302, u 303, u 304, u 305, u 306, u 307, u 308, u 309, u 310, u 311, u 312, u 313, u 314, u 315, u 316, u 317, u 318, u 319, u 320, u 321, u 322, u 323, u 324], []⟩ wr := by
  have R := Lib.hid hrel
  clear hrel
  conv => arg 2; whnf
  go_wp2_with fail
  exact ⟨rfl, rfl, ns, ms, vs, _, rfl, rfl, R.out⟩

theorem place {a n : Int} (h0 : 0 ≤ a) (hn : 0 < n) : ∃ i : Nat, (i : Int) < n ∧ a.tmod n = (i : Int) := by
  rw [Int.tmod_eq_emod_of_nonneg h0]
  have h1 := Int.emod_nonneg a (show n ≠ 0 by omega)
  have h2 := Int.emod_lt_of_pos a hn
  exact ⟨(a % n).toNat, by omega, by omega⟩
set_option maxHeartbeats 1000000 in
set_option maxRecDepth 1000000 in
theorem round_some (W0 w : World) (ab vb k cap lcap g off : Nat) (LA : Option Addr) (rs : List Rw) (r : Rw) (ns : List Nd) (ms : List Md) (vs : List Int) (u : Nat → Value) (Q0 : Exit → Act → World → Prop)
    (hrel : BRel W0 w ab vb k (.slice LA ms.length lcap) ns ms vs) (hR : RowsAt W0 (some ⟨g, off, none⟩) rs) (hgW : g < W0.heap.size) (hr : rs[k]? = some r) (hn : rs.length ≤ 200) (hcap : rs.length ≤ cap) (hcap2 : cap ≤ 9223372036854775807) (hms : 0 < ms.length) : Code.wp Tryd.prog bbody (Exit.then (fun a' w'' => WI W0 ab vb cap (some ⟨g, off, none⟩) rs a' w'' ∧ Wmu rs.length a' < Wmu rs.length ⟨#[ptr ab, .slice (some ⟨g, off, none⟩) rs.length cap, u 2, u 3, u 4, u 5, .slice LA ms.length lcap, ptr vb, .int .i64 k, u 9, u 10, u 11, u 12, u 13, u 14, u 15, u 16, u 17, u 18, u 19, u 20, u 21, u 22, u 23, u 24, u 25, u 26, u 27, u 28, u 29, u 30, u 31, u 32, u 33, u 34, u 35, u 36, u 37, u 38, u 39, u 40, u 41, u 42, u 43, u 44, u 45, u 46, u 47, u 48, u 49, u 50, u 51, u 52, u 53, u 54, u 55, u 56, u 57, u 58, u 59, u 60, u 61, u 62, u 63, u 64, u 65, u 66, u 67, u 68, u 69, u 70, u 71, u 72, u 73, u 74, u 75, u 76, u 77, u 78, u 79, u 80, u 81, u 82, u 83, u 84, u 85, u 86, u 87, u 88, u 89, u 90, u 91, u 92, u 93, u 94, u 95, u 96, u 97, u 98, u 99, u 100, u 101, u 102, u 103, u 104, u 105, u 106, u 107, u 108, u 109, u 110, u 111, u 112, u 113, u 114, u 115, u 116, u 117, u 118, u 119, u 120, u 121, u 122, u 123, u 124, u 125, u 126, u 127, u 128, u 129, u 130, u 131, u 132, u 133, u 134, u 135, u 136, u 137, u 138, u 139, u 140, u 141, u 142, u 143, u 144, u 145, u 146, u 147, u 148, u 149, u 150, u 151, u 152, u 153, u 154, u 155, u 156, u 157, u 158, u 159, u 160, u 161, u 162, u 163, u 164, u 165, u 166, u 167, u 168, u 169, u 170, u 171, u 172, u 173, u 174, u 175, u 176, u 177, u 178, u 179, u 180, u 181, u 182, u 183, u 184, u 185, u 186, u 187, u 188, u 189, u 190, u 191, u 192, u 193, u 194, u 195, u 196, u 197, u 198, u 199, u 200, u 201, u 202, u 203, u 204, u 205, u 206, u 207, u 208, u 209, u 210, u 211, u 212, u 213, u 214, u 215, u 216, u 217, u 218, u 219, u 220, u 221, u 222, u 223, u 224, u 225, u 226, u 227, u 228, u 229, u 230, u 231, u 232, u 233, u 234, u 235, u 236, u 237, u 238, u 239, u 240, u 241, u 242, u 243, u 244, u 245, u 246, u 247, u 248, u 249, u 250, u 251, u 252, u 253, u 254, u 255, u 256, u 257, u 258, u 259, u 260, u 261, u 262, u 263, u 264, u 265, u 266, u 267, u 268, u 269, u 270, u 271, u 272, u 273, u 274, u 275, u 276, u 277, u 278, u 279, u 280, u 281, u 282, u 283, u 284, u 285, u 286, u 287, u 288, u 289, u 290, u 291, u 292, u 293, u 294, u 295, u 296, u 297, u 298, u 299, u 300, u 301, u 302, u 303, u 304, u 305, u 306, u 307, u 308, u 309, u 310, u 311, u 312, u 313, u 314, u 315, u 316, u 317, u 318, u 319, u 320, u 321, u 322, u 323, u 324], []⟩) Q0) ⟨#[ptr ab, .slice (some ⟨g, off, none⟩) rs.length cap, u 2, u 3, u 4, u 5, .slice LA ms.length lcap, ptr vb, .int .i64 k, u 9, u 10, u 11, u 12, u 13, u 14, u 15, u 16, u 17, u 18, u 19, u 20, u 21, u 22, u 23, u 24, u 25, u 26, u 27, u 28, u 29, u 30, u 31, u 32, u 33, u 34, u 35, u 36, u 37, u 38, u 39, u 40, u 41, u 42, u 43, u 44, u 45, u 46, u 47, u 48, u 49, u 50, u 51, u 52, u 53, u 54, u 55, u 56, u 57, u 58, u 59, u 60, u 61, u 62, u 63, u 64, u 65, u 66, u 67, u 68, u 69, u 70, u 71, u 72, u 73, u 74, u 75, u 76, u 77, u 78, u 79, u 80, u 81, u 82, u 83, u 84, u 85, u 86, u 87, u 88, u 89, u 90, u 91, u 92, u 93, u 94, u 95, u 96, u 97, u 98, u 99, u 100, u 101, u 102, u 103, u 104, u 105, u 106, u 107, u 108, u 109, u 110, u 111, u 112, u 113, u 114, u 115, u 116, u 117, u 118, u 119, u 120, u 121, u 122, u 123, u 124, u 125, u 126, u 127, u 128, u 129, u 130, u 131, u 132, u 133, u 134, u 135, u 136, u 137, u 138, u 139, u 140, u 141, u 142, u 143, u 144, u 145, u 146, u 147, u 148, u 149, u 150, u 151, u 152, u 153, u 154, u 155, u 156, u 157, u 158, u 159, u 160, u 161, u 162, u 163, u 164, u 165, u 166, u 167, u 168, u 169, u 170, u 171, u 172, u 173, u 174, u 175, u 176, u 177, u 178, u 179, u 180, u 181, u 182, u 183, u 184, u 185, u 186, u 187, u 188, u 189, u 190, u 191, u 192, u 193, u 194, u 195, u 196, u 197, u 198, u 199, u 200, u 201, u 202, u 203, u 204, u 205, u 206, u 207, u 208, u 209, u 210, u 211, u 212, u 213, u 214, u 215, u 216, u 217, u 218, u 219, u 220, u 221, u 222, u 223, u 224, u 225, u 226, u 227, u 228, u 229, u 230, u 231, u 232, u 233, u 234, u 235, u 236, u 237, u 238, u 239, u 240, u 241, u 242, u 243, u 244, u 245, u 246, u 247, u 248, u 249, u 250, u 251, u 252, u 253, u 254, u 255, u 256, u 257, u 258, u 259, u 260, u 261, u 262, u 263, u 264, u 265, u 266, u 267, u 268, u 269, u 270, u 271, u 272, u 273, u 274, u 275, u 276, u 277, u 278, u 279, u 280, u 281, u 282, u 283, u 284, u 285, u 286, u 287, u 288, u 289, u 290, u 291, u 292, u 293, u 294, u 295, u 296, u 297, u 298, u 299, u 300, u 301, u 302, u 303, u 304, u 305, u 306, u 307, u 308, u 309, u 310, u 311, u 312, u 313, u 314, u 315, u 316, u 317, u 318, u 319, u 320, u 321, u 322, u 323, u 324], []⟩ w := by
  have hok := hR.ok r (List.mem_of_getElem? hr)
  obtain ⟨i0, hi0, e0⟩ := place hok.a.1 (show (0 : Int) < ms.length by omega)
  obtain ⟨i1, hi1, e1⟩ := place hok.b.1 (show (0 : Int) < ms.length by omega)
  obtain ⟨i2, hi2, e2⟩ := place hok.c.1 (show (0 : Int) < ms.length by omega)
  replace hi0 : i0 < ms.length := by omega
  replace hi1 : i1 < ms.length := by omega
  replace hi2 : i2 < ms.length := by omega
  by_cases o1 : r.op < 1
  · exact eother1 W0 w ab vb k cap lcap g off LA rs r ns ms vs u Q0 hrel hR hgW hr hn hcap hcap2 i0 i1 i2 hi0 hi1 hi2 e0 e1 e2 o1
  by_cases o2 : 18 < r.op
  · exact eother2 W0 w ab vb k cap lcap g off LA rs r ns ms vs u Q0 hrel hR hgW hr hn hcap hcap2 i0 i1 i2 hi0 hi1 hi2 e0 e1 e2 o2
  by_cases q1 : r.op = 1
  · by_cases hw : mayw r.w
    · exact bconst W0 w ab vb k cap lcap g off LA rs r ns ms vs u Q0 hrel hR hgW hr hn hcap hcap2 i0 i1 i2 hi0 hi1 hi2 e0 e1 e2 q1 hw
    · exact econst W0 w ab vb k cap lcap g off LA rs r ns ms vs u Q0 hrel hR hgW hr hn hcap hcap2 i0 i1 i2 hi0 hi1 hi2 e0 e1 e2 q1 hw
  by_cases q2 : r.op = 2
  · by_cases hw : mayw r.w
    · by_cases hi : r.val < 64
      · have := hok.val.1
        obtain ⟨uu, hu, _⟩ := hrel.vok.2 r.val.toNat (by omega)
        by_cases h0 : uu = 0
        · exact bvar1 W0 w ab vb k cap lcap g off LA rs r ns ms vs u Q0 hrel hR hgW hr hn hcap hcap2 i0 i1 i2 hi0 hi1 hi2 e0 e1 e2 uu q2 hw hi hu h0
        · by_cases h1 : uu = r.w
          · exact bvar2 W0 w ab vb k cap lcap g off LA rs r ns ms vs u Q0 hrel hR hgW hr hn hcap hcap2 i0 i1 i2 hi0 hi1 hi2 e0 e1 e2 uu q2 hw hi hu h0 h1
          · exact evar3 W0 w ab vb k cap lcap g off LA rs r ns ms vs u Q0 hrel hR hgW hr hn hcap hcap2 i0 i1 i2 hi0 hi1 hi2 e0 e1 e2 uu q2 hw hi hu h0 h1
      · exact evar2 W0 w ab vb k cap lcap g off LA rs r ns ms vs u Q0 hrel hR hgW hr hn hcap hcap2 i0 i1 i2 hi0 hi1 hi2 e0 e1 e2 q2 hw (by omega)
    · exact evar1 W0 w ab vb k cap lcap g off LA rs r ns ms vs u Q0 hrel hR hgW hr hn hcap hcap2 i0 i1 i2 hi0 hi1 hi2 e0 e1 e2 q2 hw
  by_cases q3 : r.op = 3
  · exact bnot W0 w ab vb k cap lcap g off LA rs r ns ms vs u Q0 hrel hR hgW hr hn hcap hcap2 i0 i1 i2 hi0 hi1 hi2 e0 e1 e2 q3
  by_cases q13 : r.op ≤ 13
  · by_cases hw : wOf ms i0 = wOf ms i1
    · exact btwo W0 w ab vb k cap lcap g off LA rs r ns ms vs u Q0 hrel hR hgW hr hn hcap hcap2 i0 i1 i2 hi0 hi1 hi2 e0 e1 e2 ⟨by omega, q13⟩ hw
    · exact etwo W0 w ab vb k cap lcap g off LA rs r ns ms vs u Q0 hrel hR hgW hr hn hcap hcap2 i0 i1 i2 hi0 hi1 hi2 e0 e1 e2 ⟨by omega, q13⟩ hw
  by_cases q14 : r.op = 14
  · by_cases hw : wOf ms i0 = wOf ms i1
    · exact beq W0 w ab vb k cap lcap g off LA rs r ns ms vs u Q0 hrel hR hgW hr hn hcap hcap2 i0 i1 i2 hi0 hi1 hi2 e0 e1 e2 q14 hw
    · exact eeq W0 w ab vb k cap lcap g off LA rs r ns ms vs u Q0 hrel hR hgW hr hn hcap hcap2 i0 i1 i2 hi0 hi1 hi2 e0 e1 e2 q14 hw
  by_cases q15 : r.op = 15
  · by_cases hw : wOf ms i0 = wOf ms i1
    · exact blt W0 w ab vb k cap lcap g off LA rs r ns ms vs u Q0 hrel hR hgW hr hn hcap hcap2 i0 i1 i2 hi0 hi1 hi2 e0 e1 e2 q15 hw
    · exact elt W0 w ab vb k cap lcap g off LA rs r ns ms vs u Q0 hrel hR hgW hr hn hcap hcap2 i0 i1 i2 hi0 hi1 hi2 e0 e1 e2 q15 hw
  by_cases q16 : r.op = 16
  · by_cases hw0 : wOf ms i0 = 1
    · by_cases hw : wOf ms i1 = wOf ms i2
      · exact bite W0 w ab vb k cap lcap g off LA rs r ns ms vs u Q0 hrel hR hgW hr hn hcap hcap2 i0 i1 i2 hi0 hi1 hi2 e0 e1 e2 q16 hw0 hw
      · exact eite2 W0 w ab vb k cap lcap g off LA rs r ns ms vs u Q0 hrel hR hgW hr hn hcap hcap2 i0 i1 i2 hi0 hi1 hi2 e0 e1 e2 q16 hw0 hw
    · exact eite1 W0 w ab vb k cap lcap g off LA rs r ns ms vs u Q0 hrel hR hgW hr hn hcap hcap2 i0 i1 i2 hi0 hi1 hi2 e0 e1 e2 q16 hw0
  by_cases q17 : r.op = 17
  · by_cases hw0 : mayw r.w
    · by_cases hw : wOf ms i0 ≤ r.w
      · exact bext W0 w ab vb k cap lcap g off LA rs r ns ms vs u Q0 hrel hR hgW hr hn hcap hcap2 i0 i1 i2 hi0 hi1 hi2 e0 e1 e2 q17 hw0 hw
      · exact eext2 W0 w ab vb k cap lcap g off LA rs r ns ms vs u Q0 hrel hR hgW hr hn hcap hcap2 i0 i1 i2 hi0 hi1 hi2 e0 e1 e2 q17 hw0 (by omega)
    · exact eext1 W0 w ab vb k cap lcap g off LA rs r ns ms vs u Q0 hrel hR hgW hr hn hcap hcap2 i0 i1 i2 hi0 hi1 hi2 e0 e1 e2 q17 hw0
  have q18 : r.op = 18 := by omega
  by_cases hw0 : mayw r.w
  · by_cases hw : r.w ≤ wOf ms i0
    · exact bcut W0 w ab vb k cap lcap g off LA rs r ns ms vs u Q0 hrel hR hgW hr hn hcap hcap2 i0 i1 i2 hi0 hi1 hi2 e0 e1 e2 q18 hw0 hw
    · exact ecut2 W0 w ab vb k cap lcap g off LA rs r ns ms vs u Q0 hrel hR hgW hr hn hcap hcap2 i0 i1 i2 hi0 hi1 hi2 e0 e1 e2 q18 hw0 (by omega)
  · exact ecut1 W0 w ab vb k cap lcap g off LA rs r ns ms vs u Q0 hrel hR hgW hr hn hcap hcap2 i0 i1 i2 hi0 hi1 hi2 e0 e1 e2 q18 hw0

set_option maxHeartbeats 1000000 in
set_option maxRecDepth 1000000 in
theorem round_none (W0 w : World) (ab vb k cap lcap g off : Nat) (LA : Option Addr) (rs : List Rw) (r : Rw) (ns : List Nd) (ms : List Md) (vs : List Int) (u : Nat → Value) (Q0 : Exit → Act → World → Prop)
    (hrel : BRel W0 w ab vb k (.slice LA ms.length lcap) ns ms vs) (hR : RowsAt W0 (some ⟨g, off, none⟩) rs) (hgW : g < W0.heap.size) (hr : rs[k]? = some r) (hn : rs.length ≤ 200) (hcap : rs.length ≤ cap) (hcap2 : cap ≤ 9223372036854775807) (hms : ms = []) : Code.wp Tryd.prog bbody (Exit.then (fun a' w'' => WI W0 ab vb cap (some ⟨g, off, none⟩) rs a' w'' ∧ Wmu rs.length a' < Wmu rs.length ⟨#[ptr ab, .slice (some ⟨g, off, none⟩) rs.length cap, u 2, u 3, u 4, u 5, .slice LA ms.length lcap, ptr vb, .int .i64 k, u 9, u 10, u 11, u 12, u 13, u 14, u 15, u 16, u 17, u 18, u 19, u 20, u 21, u 22, u 23, u 24, u 25, u 26, u 27, u 28, u 29, u 30, u 31, u 32, u 33, u 34, u 35, u 36, u 37, u 38, u 39, u 40, u 41, u 42, u 43, u 44, u 45, u 46, u 47, u 48, u 49, u 50, u 51, u 52, u 53, u 54, u 55, u 56, u 57, u 58, u 59, u 60, u 61, u 62, u 63, u 64, u 65, u 66, u 67, u 68, u 69, u 70, u 71, u 72, u 73, u 74, u 75, u 76, u 77, u 78, u 79, u 80, u 81, u 82, u 83, u 84, u 85, u 86, u 87, u 88, u 89, u 90, u 91, u 92, u 93, u 94, u 95, u 96, u 97, u 98, u 99, u 100, u 101, u 102, u 103, u 104, u 105, u 106, u 107, u 108, u 109, u 110, u 111, u 112, u 113, u 114, u 115, u 116, u 117, u 118, u 119, u 120, u 121, u 122, u 123, u 124, u 125, u 126, u 127, u 128, u 129, u 130, u 131, u 132, u 133, u 134, u 135, u 136, u 137, u 138, u 139, u 140, u 141, u 142, u 143, u 144, u 145, u 146, u 147, u 148, u 149, u 150, u 151, u 152, u 153, u 154, u 155, u 156, u 157, u 158, u 159, u 160, u 161, u 162, u 163, u 164, u 165, u 166, u 167, u 168, u 169, u 170, u 171, u 172, u 173, u 174, u 175, u 176, u 177, u 178, u 179, u 180, u 181, u 182, u 183, u 184, u 185, u 186, u 187, u 188, u 189, u 190, u 191, u 192, u 193, u 194, u 195, u 196, u 197, u 198, u 199, u 200, u 201, u 202, u 203, u 204, u 205, u 206, u 207, u 208, u 209, u 210, u 211, u 212, u 213, u 214, u 215, u 216, u 217, u 218, u 219, u 220, u 221, u 222, u 223, u 224, u 225, u 226, u 227, u 228, u 229, u 230, u 231, u 232, u 233, u 234, u 235, u 236, u 237, u 238, u 239, u 240, u 241, u 242, u 243, u 244, u 245, u 246, u 247, u 248, u 249, u 250, u 251, u 252, u 253, u 254, u 255, u 256, u 257, u 258, u 259, u 260, u 261, u 262, u 263, u 264, u 265, u 266, u 267, u 268, u 269, u 270, u 271, u 272, u 273, u 274, u 275, u 276, u 277, u 278, u 279, u 280, u 281, u 282, u 283, u 284, u 285, u 286, u 287, u 288, u 289, u 290, u 291, u 292, u 293, u 294, u 295, u 296, u 297, u 298, u 299, u 300, u 301, u 302, u 303, u 304, u 305, u 306, u 307, u 308, u 309, u 310, u 311, u 312, u 313, u 314, u 315, u 316, u 317, u 318, u 319, u 320, u 321, u 322, u 323, u 324], []⟩) Q0) ⟨#[ptr ab, .slice (some ⟨g, off, none⟩) rs.length cap, u 2, u 3, u 4, u 5, .slice LA ms.length lcap, ptr vb, .int .i64 k, u 9, u 10, u 11, u 12, u 13, u 14, u 15, u 16, u 17, u 18, u 19, u 20, u 21, u 22, u 23, u 24, u 25, u 26, u 27, u 28, u 29, u 30, u 31, u 32, u 33, u 34, u 35, u 36, u 37, u 38, u 39, u 40, u 41, u 42, u 43, u 44, u 45, u 46, u 47, u 48, u 49, u 50, u 51, u 52, u 53, u 54, u 55, u 56, u 57, u 58, u 59, u 60, u 61, u 62, u 63, u 64, u 65, u 66, u 67, u 68, u 69, u 70, u 71, u 72, u 73, u 74, u 75, u 76, u 77, u 78, u 79, u 80, u 81, u 82, u 83, u 84, u 85, u 86, u 87, u 88, u 89, u 90, u 91, u 92, u 93, u 94, u 95, u 96, u 97, u 98, u 99, u 100, u 101, u 102, u 103, u 104, u 105, u 106, u 107, u 108, u 109, u 110, u 111, u 112, u 113, u 114, u 115, u 116, u 117, u 118, u 119, u 120, u 121, u 122, u 123, u 124, u 125, u 126, u 127, u 128, u 129, u 130, u 131, u 132, u 133, u 134, u 135, u 136, u 137, u 138, u 139, u 140, u 141, u 142, u 143, u 144, u 145, u 146, u 147, u 148, u 149, u 150, u 151, u 152, u 153, u 154, u 155, u 156, u 157, u 158, u 159, u 160, u 161, u 162, u 163, u 164, u 165, u 166, u 167, u 168, u 169, u 170, u 171, u 172, u 173, u 174, u 175, u 176, u 177, u 178, u 179, u 180, u 181, u 182, u 183, u 184, u 185, u 186, u 187, u 188, u 189, u 190, u 191, u 192, u 193, u 194, u 195, u 196, u 197, u 198, u 199, u 200, u 201, u 202, u 203, u 204, u 205, u 206, u 207, u 208, u 209, u 210, u 211, u 212, u 213, u 214, u 215, u 216, u 217, u 218, u 219, u 220, u 221, u 222, u 223, u 224, u 225, u 226, u 227, u 228, u 229, u 230, u 231, u 232, u 233, u 234, u 235, u 236, u 237, u 238, u 239, u 240, u 241, u 242, u 243, u 244, u 245, u 246, u 247, u 248, u 249, u 250, u 251, u 252, u 253, u 254, u 255, u 256, u 257, u 258, u 259, u 260, u 261, u 262, u 263, u 264, u 265, u 266, u 267, u 268, u 269, u 270, u 271, u 272, u 273, u 274, u 275, u 276, u 277, u 278, u 279, u 280, u 281, u 282, u 283, u 284, u 285, u 286, u 287, u 288, u 289, u 290, u 291, u 292, u 293, u 294, u 295, u 296, u 297, u 298, u 299, u 300, u 301, u 302, u 303, u 304, u 305, u 306, u 307, u 308, u 309, u 310, u 311, u 312, u 313, u 314, u 315, u 316, u 317, u 318, u 319, u 320, u 321, u 322, u 323, u 324], []⟩ w := by
  have hok := hR.ok r (List.mem_of_getElem? hr)
  by_cases q1 : r.op = 1
  · by_cases hw : mayw r.w
    · exact zbconst W0 w ab vb k cap lcap g off LA rs r ns ms vs u Q0 hrel hR hgW hr hn hcap hcap2 hms q1 hw
    · exact zeconst W0 w ab vb k cap lcap g off LA rs r ns ms vs u Q0 hrel hR hgW hr hn hcap hcap2 hms q1 hw
  by_cases q2 : r.op = 2
  · by_cases hw : mayw r.w
    · by_cases hi : r.val < 64
      · have := hok.val.1
        obtain ⟨uu, hu, _⟩ := hrel.vok.2 r.val.toNat (by omega)
        by_cases h0 : uu = 0
        · exact zbvar1 W0 w ab vb k cap lcap g off LA rs r ns ms vs u Q0 hrel hR hgW hr hn hcap hcap2 hms uu q2 hw hi hu h0
        · by_cases h1 : uu = r.w
          · exact zbvar2 W0 w ab vb k cap lcap g off LA rs r ns ms vs u Q0 hrel hR hgW hr hn hcap hcap2 hms uu q2 hw hi hu h0 h1
          · exact zevar3 W0 w ab vb k cap lcap g off LA rs r ns ms vs u Q0 hrel hR hgW hr hn hcap hcap2 hms uu q2 hw hi hu h0 h1
      · exact zevar2 W0 w ab vb k cap lcap g off LA rs r ns ms vs u Q0 hrel hR hgW hr hn hcap hcap2 hms q2 hw (by omega)
    · exact zevar1 W0 w ab vb k cap lcap g off LA rs r ns ms vs u Q0 hrel hR hgW hr hn hcap hcap2 hms q2 hw
  exact bskip W0 w ab vb k cap lcap g off LA rs r ns ms vs u Q0 hrel hR hgW hr hn hcap hcap2 hms q1 q2
set_option maxHeartbeats 1000000 in
set_option maxRecDepth 1000000 in
theorem round_any (W0 : World) (ab vb cap : Nat) (A : Option Addr) (rs : List Rw) (Q0 : Exit → Act → World → Prop) (hR : RowsAt W0 A rs) (hn : rs.length ≤ 200) (hcap : rs.length ≤ cap) (hcap2 : cap ≤ 9223372036854775807) (hq : ∀ a w, WX W0 ab vb rs a w → Q0 (.exit 0) a w)
    (a : Act) (w : World) (hI : WI W0 ab vb cap A rs a w) : Code.wp Tryd.prog bbody (Exit.then (fun a' w' => WI W0 ab vb cap A rs a' w' ∧ Wmu rs.length a' < Wmu rs.length a) Q0) a w := by
  obtain ⟨k, ns, ms, vs, lv, hk, hd, hs, h0, h1, h6, h7, h8, hrel⟩ := hI
  obtain ⟨t, d⟩ := a
  obtain rfl : d = [] := hd
  obtain ⟨LA, lcap, rfl⟩ : ∃ LA lcap, lv = .slice LA ms.length lcap := by
    rcases hrel.row.2 with ⟨hz, h0⟩ | ⟨g, cap, cur, hz, _⟩
    · rw [hz]; exact ⟨none, 0, by rw [← h0]⟩
    · rw [hz]; exact ⟨_, _, rfl⟩
  obtain ⟨u, hu⟩ := frame5 t hs h0 h1 h6 h7 h8
  subst hu
  clear hs h0 h1 h6 h7 h8
  by_cases hlt : k < rs.length
  · obtain ⟨r, hr⟩ : ∃ r, rs[k]? = some r := ⟨_, List.getElem?_eq_getElem hlt⟩
    obtain ⟨g, off, rfl, hgW, _⟩ := hR.get k r hr
    by_cases hms : 0 < ms.length
    · exact round_some W0 w ab vb k cap lcap g off LA rs r ns ms vs u Q0 hrel hR hgW hr hn hcap hcap2 hms
    · exact round_none W0 w ab vb k cap lcap g off LA rs r ns ms vs u Q0 hrel hR hgW hr hn hcap hcap2 (List.length_eq_zero_iff.1 (by omega))
  · obtain rfl : k = rs.length := by omega
    exact bend W0 w ab vb cap lcap A LA rs ns ms vs u Q0 hrel hn hq

set_option maxHeartbeats 4000000 in
set_option maxRecDepth 1000000 in
theorem build_any (W0 w : World) (ab cap : Nat) (A : Option Addr) (rs : List Rw) (C : Cur W0 w ab [] (fun _ => False)) (hR : RowsAt W0 A rs) (hn : rs.length ≤ 200) (hcap : rs.length ≤ cap) (hcap2 : cap ≤ 9223372036854775807) :
    Calls Tryd.prog 8 #[ptr ab, .slice A rs.length cap] w (BuildPost W0 ab rs) := by
  have HR := Lib.hid hR
  have HC := Lib.hid C
  have zv := zero_vars
  clear hR C
  go_enter Tryd.func8, Tryd.ntmps8
  go_wp2_with fail
  refine wp_loop (WI W0 ab w.heap.size cap A rs) (fun a _ => Wmu rs.length a) ?_ (fun a w'' hI => round_any W0 ab w.heap.size cap A rs _ HR.out hn hcap hcap2 ?_ a w'' hI)
  · exact ⟨0, [], [], List.replicate 64 0, .slice none 0 0, Nat.zero_le _, rfl, rfl, rfl, rfl, rfl, rfl, rfl, ⟨(HC.out.mine _).less (fun b hb => by
      rcases hb with hb | hb
      · exact .inr hb
      · exact absurd hb (by simp [Value.ownBlock])), Has.new w 62 (va (List.replicate 64 0)), VarsOk.nil, ⟨rfl, .inl ⟨rfl, rfl⟩⟩, MadesOk.nil [], Nat.le_refl _, Nat.le_refl _, HC.out.below0.size⟩⟩
  · intro a w' hX
    obtain ⟨hd, hs, ns, ms, vs, lv, h0, h6, hrel⟩ := hX
    obtain ⟨t, d⟩ := a
    obtain rfl : d = [] := hd
    obtain ⟨LA, lcap, rfl⟩ : ∃ LA lcap, lv = .slice LA ms.length lcap := by
      rcases hrel.row.2 with ⟨hz, h0⟩ | ⟨g, cap, cur, hz, _⟩
      · rw [hz]; exact ⟨none, 0, by rw [← h0]⟩
      · rw [hz]; exact ⟨_, _, rfl⟩
    obtain ⟨u, hu⟩ := frame1 t hs h6
    subst hu
    have R := Lib.hid hrel
    clear hs h0 h6 hrel
    go_wp2_with fail
    go_ret2
    exact ⟨ns, ms, LA, lcap, rfl, R.out.cur.less (fun b hb => .inr hb), R.out.row, R.out.mok, R.out.ml, by have := R.out.nl; omega⟩

end Go.Proofs.YtgbmiphaabeodaaDoor
