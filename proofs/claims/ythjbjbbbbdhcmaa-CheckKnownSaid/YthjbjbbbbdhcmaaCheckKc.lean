/-
  The law CheckKnown: programs by hand, each fault, where it is told.
-/
import Derived.Test.YthjbjbbbbdhcmaaCheckKp
namespace Go.Proofs.Ythjbjbbbbdhcmaa
open Go.ChangeShapes Go.WideShapes Go.ChangeAt Go.RowKit Go.Joins
set_option linter.unusedVariables false

def mkR (U v : Nat → Value) : Act := { tmps := #[U 0, U 1, U 2, U 3, U 4, U 5, U 6, U 7, U 8, U 9, U 10, U 11, U 12, U 13, U 14, U 15, U 16, U 17, U 18, U 19, U 20, U 21, U 22, U 23, U 24, U 25, U 26, U 27, U 28, U 29, U 30, U 31, U 32, U 33, U 34, U 35, U 36, U 37, U 38, U 39, U 40, U 41, U 42, U 43, U 44, U 45, U 46, U 47, U 48, U 49, U 50, U 51, U 52, U 53, U 54, U 55, U 56, U 57, U 58, U 59, U 60, U 61, U 62, U 63, U 64, U 65, U 66, U 67, U 68, U 69, U 70, U 71, U 72, U 73, U 74, U 75, U 76, U 77, U 78, U 79, U 80, U 81, U 82, U 83, U 84, U 85, U 86, U 87, U 88, U 89, U 90, U 91, U 92, U 93, U 94, U 95, U 96, U 97, U 98, U 99, U 100, U 101, U 102, v 0, v 1, v 2, v 3, v 4, v 5, v 6, v 7, v 8, v 9, v 10, v 11, v 12, v 13, v 14, v 15, v 16, v 17, v 18, v 19, v 20, v 21, v 22, v 23, v 24, v 25, v 26, v 27, v 28, v 29, v 30, v 31, v 32, v 33, v 34, v 35, v 36, v 37, v 38, v 39, v 40, U 144, U 145, U 146, U 147, U 148, U 149, U 150, U 151, U 152, U 153, U 154, U 155, U 156, U 157, U 158, U 159, U 160, U 161, U 162, U 163, U 164, U 165, U 166, U 167, U 168, U 169, U 170, U 171, U 172, U 173, U 174, U 175, U 176, U 177, U 178, U 179, U 180, U 181, U 182, U 183, U 184, U 185, U 186, U 187, U 188, U 189, U 190, U 191, U 192, U 193, U 194, U 195, U 196, U 197], defers := [] }
inductive S12 where
  | val (v : Value)
  | len (n : Nat)
def S12.ok : S12 → Value → Prop
  | .val x, v => v = x
  | .len n, v => ∃ A c, v = .slice A n c
def sp12 (av wv : Int) (k ga ba bw : Nat) (A B : Option Addr) (ll ca nl cb hl : Nat) (b0 b1 b2 : Bool) : List S12 := [.val (.int .i64 av), .val (.slice (some ⟨ba, 0, none⟩) 12 12), .val (.int .i64 (k : Int)), .val (.pointer (some ⟨ba, k, none⟩)), .val (.int .i64 av), .val (.bool false), .val (.bool false), .val (.int .i64 wv), .val (.slice (some ⟨bw, 0, none⟩) 12 12), .val (.int .i64 (k : Int)), .val (.pointer (some ⟨bw, k, none⟩)), .val (.int .i64 wv), .val (.bool false), .val (.bool false), .val (.bool false), .val (.int .i64 wv), .val (.bool b0), .val (.slice (some ⟨ga, 0, none⟩) 12 12), .val (.int .i64 (k : Int)), .val (.pointer (some ⟨ga, k * 2, none⟩)), .val (.agg #[.slice A ll ca, .slice B nl cb]), .len hl, .val (.int .i64 (hl : Int)), .val (.slice (some ⟨ga, 0, none⟩) 12 12), .val (.int .i64 (k : Int)), .val (.pointer (some ⟨ga, k * 2, none⟩)), .val (.pointer (some ⟨ga, k * 2, none⟩)), .val (.slice A ll ca), .val (.int .i64 (ll : Int)), .val (.bool b1), .val (.bool b1), .val (if b1 = true then .slice (some ⟨ga, 0, none⟩) 12 12 else undef), .val (if b1 = true then .int .i64 (k : Int) else undef), .val (if b1 = true then .pointer (some ⟨ga, k * 2, none⟩) else undef), .val (if b1 = true then .pointer (some ⟨ga, k * 2, none⟩) else undef), .val (if b1 = true then .slice A ll ca else undef), .val (if b1 = true then .int .i64 (ll : Int) else undef), .val (if b1 = true then .bool b2 else undef), .val (.bool (b1 && b2)), .val (.bool false), .val (.bool false)]
inductive SM where
  | val (v : Value)
  | zero
  | own (l : List (Int × Int))
  | row (l : List (Int × Int))
  | prg (l : List (Int × Int))
def SM.ok (B : Nat) : SM → Value → World → Prop
  | .val x, v, _ => v = x
  | .zero, v, _ => ∃ g, v = .slice (some ⟨g, 0, none⟩) 0 0
  | .own l, v, w => w.ownsRow B 38 2 v l.length (iCells l)
  | .row l, v, w => ∃ g, v = .slice (some ⟨g, 0, none⟩) l.length l.length ∧ Has w g 38 (iC l)
  | .prg l, v, w => PrgV w v l []
theorem SM.on {B : Nat} {s : SM} {v : Value} {w w' : World} (h : s.ok B v w) (g : Gw w w') : s.ok B v w' := by
  cases s with
  | val x => exact h
  | zero => exact h
  | own l => exact own_keep h fun b _ hb => g.block b hb
  | row l => obtain ⟨b, e, k⟩ := h; exact ⟨b, e, k.on g⟩
  | prg l => exact PrgV.on h g
theorem iC_get (l : List (Int × Int)) (j : Nat) : (iC l)[j]? = (iCells l)[j]? := by unfold iC iCells; rw [List.getElem?_toArray]
theorem own_base {w : World} {b B : Nat} {e : TypeId} {size n : Nat} {v : Value} {xs : List Value} (h : w.ownsRow B e size v n xs) (k : b ≤ B) : w.ownsRow b e size v n xs := by
  refine ⟨h.1, ?_⟩
  rcases h.2 with h0 | ⟨g, cap, cur, h0, h1, h2, h3⟩
  · exact .inl h0
  · exact .inr ⟨g, cap, cur, h0, Nat.le_trans k h1, h2, h3⟩
def mkM19 (U v : Nat → Value) : Act := { tmps := #[U 0, U 1, U 2, U 3, U 4, U 5, U 6, U 7, U 8, U 9, U 10, U 11, U 12, v 12, v 13, U 15, U 16, U 17, U 18, U 19, U 20, U 21, U 22, U 23, U 24, U 25, U 26, U 27, U 28, U 29, U 30, U 31, U 32, U 33, U 34, U 35, U 36, U 37, U 38, U 39, U 40, U 41, U 42, U 43, U 44, U 45, U 46, U 47, U 48, U 49, U 50, U 51, U 52, U 53, U 54, U 55, U 56, U 57, U 58, U 59, U 60, U 61, U 62, U 63, U 64, U 65, U 66, U 67, U 68, U 69, U 70, U 71, U 72, U 73, U 74, U 75, U 76, U 77, U 78, U 79, U 80, U 81, U 82, U 83, U 84, U 85, U 86, U 87, U 88, U 89, U 90, U 91, U 92, U 93, U 94, U 95, U 96, U 97, U 98, U 99, U 100, U 101, U 102, U 103, U 104, U 105, U 106, U 107, U 108, U 109, U 110, U 111, U 112, U 113, U 114, U 115, U 116, U 117, U 118, U 119, U 120, U 121, U 122, U 123, U 124, U 125, U 126, U 127, U 128, U 129, U 130, U 131, U 132, U 133, U 134, U 135, U 136, U 137, U 138, U 139, U 140, U 141, U 142, U 143, U 144, U 145, U 146, U 147, U 148, U 149, U 150, U 151, U 152, U 153, U 154, v 9, v 0, v 1, v 2, v 3, v 4, v 5, v 6, v 7, v 8, v 10, v 11, U 167, U 168, U 169, U 170, U 171, U 172, U 173, U 174, U 175, U 176, U 177, U 178, U 179, U 180, U 181, U 182, U 183, U 184, U 185, U 186, U 187, U 188, U 189, U 190, U 191, U 192, U 193, U 194, U 195, U 196, U 197], defers := [] }
def mkM20 (U v : Nat → Value) : Act := { tmps := #[U 0, U 1, U 2, U 3, U 4, U 5, U 6, U 7, U 8, U 9, U 10, U 11, U 12, U 13, U 14, v 13, v 14, U 17, U 18, U 19, U 20, U 21, U 22, U 23, U 24, U 25, U 26, U 27, U 28, U 29, U 30, U 31, U 32, U 33, U 34, U 35, U 36, U 37, U 38, U 39, U 40, U 41, U 42, U 43, U 44, U 45, U 46, U 47, U 48, U 49, U 50, U 51, U 52, U 53, U 54, U 55, U 56, U 57, U 58, U 59, U 60, U 61, U 62, U 63, U 64, U 65, U 66, U 67, U 68, U 69, U 70, U 71, U 72, U 73, U 74, U 75, U 76, U 77, U 78, U 79, U 80, U 81, U 82, U 83, U 84, U 85, U 86, U 87, U 88, U 89, U 90, U 91, U 92, U 93, U 94, U 95, U 96, U 97, U 98, U 99, U 100, U 101, U 102, U 103, U 104, U 105, U 106, U 107, U 108, U 109, U 110, U 111, U 112, U 113, U 114, U 115, U 116, U 117, U 118, U 119, U 120, U 121, U 122, U 123, U 124, U 125, U 126, U 127, U 128, U 129, U 130, U 131, U 132, U 133, U 134, U 135, U 136, U 137, U 138, U 139, U 140, U 141, U 142, U 143, U 144, U 145, U 146, U 147, U 148, U 149, U 150, U 151, U 152, U 153, U 154, U 155, U 156, U 157, U 158, U 159, U 160, U 161, U 162, U 163, U 164, U 165, U 166, v 10, v 0, v 1, v 2, v 3, v 4, v 5, v 6, v 7, v 8, v 9, v 11, v 12, U 180, U 181, U 182, U 183, U 184, U 185, U 186, U 187, U 188, U 189, U 190, U 191, U 192, U 193, U 194, U 195, U 196, U 197], defers := [] }
def spM19 (pv gm cm : Nat) : List SM := [.zero, .val (.pointer (some ⟨pv, 0, none⟩)), .val (.slice (some ⟨gm, 0, none⟩) 16 cm), .own (List.replicate 16 ((1 : Int), (0 : Int))), .val (.agg #[.int .i64 26, .int .i64 0]), .row [(26, 0)], .own (List.replicate 16 ((1 : Int), (0 : Int)) ++ [(26, 0)]), .prg (List.replicate 16 ((1 : Int), (0 : Int)) ++ [(26, 0)]), .val (.tuple #[.int .i64 0, .int .i64 0]), .val (.tuple #[.int .i64 0, .int .i64 0]), .val (.int .i64 0), .val (.int .i64 0), .val (.int .i64 0), .val (.int .i64 0)]
def spM20 (pv gm cm : Nat) : List SM := [.zero, .val (.pointer (some ⟨pv, 0, none⟩)), .val (.slice (some ⟨gm, 0, none⟩) 16 cm), .own (List.replicate 16 ((1 : Int), (0 : Int))), .val (.agg #[.int .i64 1, .int .i64 0]), .val (.agg #[.int .i64 26, .int .i64 0]), .row [(1, 0), (26, 0)], .own (List.replicate 16 ((1 : Int), (0 : Int)) ++ [(1, 0), (26, 0)]), .prg (List.replicate 16 ((1 : Int), (0 : Int)) ++ [(1, 0), (26, 0)]), .val (.tuple #[.int .i64 16, .int .i64 7]), .val (.tuple #[.int .i64 16, .int .i64 7]), .val (.int .i64 16), .val (.int .i64 7), .val (.int .i64 16), .val (.int .i64 7)]
set_option maxRecDepth 100000 in
set_option maxHeartbeats 8000000 in
theorem known_walk (r : RunC) (h : HtsC) (aw : AwC) (W : World) : Calls Try.prog 4 #[] W fun e W' => e = .returned (.bool true) ∧ Gw W W' := by
  have AW := aw W
  have hn : ∀ b w, (Op.unary .not (.bool b)).run Try.prog w = .ok (.bool (!b)) w := fun _ _ => rfl
  go_enter Try.func4, Try.ntmps4
  dsimp only [List.append]
  go_upto_region 4 with (go_at_call 8; with_reducible refine AW.mono ?_; rintro e w1 ⟨rfl, G1⟩)
  have Hp0 := Has.new w1 38 #[.int .i64 1, .int .i64 0]
  have Hq0 := Has.new (w1.alloc (.cells #[.int .i64 1, .int .i64 0] 38)) 38 #[.int .i64 26, .int .i64 0]
  have Ho0 := Has.new ((w1.alloc (.cells #[.int .i64 1, .int .i64 0] 38)).alloc (.cells #[.int .i64 26, .int .i64 0] 38)) 38 #[.int .i64 2, .int .i64 0]
  have HGb := Lib.hid (G1.trans ((Gw.alloc w1 (.cells #[.int .i64 1, .int .i64 0] 38)).trans ((Gw.alloc _ (.cells #[.int .i64 26, .int .i64 0] 38)).trans (Gw.alloc _ (.cells #[.int .i64 2, .int .i64 0] 38)))))
  have Hp := Lib.hid ((Hp0.on (Gw.alloc _ (.cells #[.int .i64 26, .int .i64 0] 38))).on (Gw.alloc _ (.cells #[.int .i64 2, .int .i64 0] 38)))
  have Hq := Lib.hid (Hq0.on (Gw.alloc _ (.cells #[.int .i64 2, .int .i64 0] 38)))
  have Ho := Lib.hid Ho0
  rw [size_alloc] at Hq
  rw [size_alloc, size_alloc] at Ho
  clear Hp0 Hq0 Ho0
  go_upto_region 5 with fail
  generalize ((w1.alloc (.cells #[.int .i64 1, .int .i64 0] 38)).alloc (.cells #[.int .i64 26, .int .i64 0] 38)).alloc (.cells #[.int .i64 2, .int .i64 0] 38) = wb at *
  generalize hp : w1.heap.size = p at *
  generalize hq : p + 1 = q at *
  generalize ho : q + 1 = o at *
  clear hp hq ho AW
  go_cut [5] (fun s5 wx => Hid (Sp.all.ok s5 wx) ∧ Hid (Gw wb wx))
  case first =>
    refine region_slots (mk := mkK p q o) (v0 := fun _ => undef) (Ok := KnOk) (n := 66) ?_ (by kernel_rfl) ?_ ?_ (fun j v w w' h g => Sp.on h g) ?_ ?_ ?_
    · rfl
    · exact ops_guard (by decide +kernel)
    · exact ops_wf (by decide +kernel)
    · intro i o' v x ho
      have hi : i < 66 := (Array.getElem?_eq_some_iff.1 ho).1
      rcases (by omega : i = 0 ∨ i = 1 ∨ i = 2 ∨ i = 3 ∨ i = 4 ∨ i = 5 ∨ i = 6 ∨ i = 7 ∨ i = 8 ∨ i = 9 ∨ i = 10 ∨ i = 11 ∨ i = 12 ∨ i = 13 ∨ i = 14 ∨ i = 15 ∨ i = 16 ∨ i = 17 ∨ i = 18 ∨ i = 19 ∨ i = 20 ∨ i = 21 ∨ i = 22 ∨ i = 23 ∨ i = 24 ∨ i = 25 ∨ i = 26 ∨ i = 27 ∨ i = 28 ∨ i = 29 ∨ i = 30 ∨ i = 31 ∨ i = 32 ∨ i = 33 ∨ i = 34 ∨ i = 35 ∨ i = 36 ∨ i = 37 ∨ i = 38 ∨ i = 39 ∨ i = 40 ∨ i = 41 ∨ i = 42 ∨ i = 43 ∨ i = 44 ∨ i = 45 ∨ i = 46 ∨ i = 47 ∨ i = 48 ∨ i = 49 ∨ i = 50 ∨ i = 51 ∨ i = 52 ∨ i = 53 ∨ i = 54 ∨ i = 55 ∨ i = 56 ∨ i = 57 ∨ i = 58 ∨ i = 59 ∨ i = 60 ∨ i = 61 ∨ i = 62 ∨ i = 63 ∨ i = 64 ∨ i = 65) with rfl | rfl | rfl | rfl | rfl | rfl | rfl | rfl | rfl | rfl | rfl | rfl | rfl | rfl | rfl | rfl | rfl | rfl | rfl | rfl | rfl | rfl | rfl | rfl | rfl | rfl | rfl | rfl | rfl | rfl | rfl | rfl | rfl | rfl | rfl | rfl | rfl | rfl | rfl | rfl | rfl | rfl | rfl | rfl | rfl | rfl | rfl | rfl | rfl | rfl | rfl | rfl | rfl | rfl | rfl | rfl | rfl | rfl | rfl | rfl | rfl | rfl | rfl | rfl | rfl | rfl
      all_goals (cases ho; rfl)
    · intro i o' v w ho hG hdep K hK
      have hi : i < 66 := (Array.getElem?_eq_some_iff.1 ho).1
      rcases (by omega : i = 0 ∨ i = 1 ∨ i = 2 ∨ i = 3 ∨ i = 4 ∨ i = 5 ∨ i = 6 ∨ i = 7 ∨ i = 8 ∨ i = 9 ∨ i = 10 ∨ i = 11 ∨ i = 12 ∨ i = 13 ∨ i = 14 ∨ i = 15 ∨ i = 16 ∨ i = 17 ∨ i = 18 ∨ i = 19 ∨ i = 20 ∨ i = 21 ∨ i = 22 ∨ i = 23 ∨ i = 24 ∨ i = 25 ∨ i = 26 ∨ i = 27 ∨ i = 28 ∨ i = 29 ∨ i = 30 ∨ i = 31 ∨ i = 32 ∨ i = 33 ∨ i = 34 ∨ i = 35 ∨ i = 36 ∨ i = 37 ∨ i = 38 ∨ i = 39 ∨ i = 40 ∨ i = 41 ∨ i = 42 ∨ i = 43 ∨ i = 44 ∨ i = 45 ∨ i = 46 ∨ i = 47 ∨ i = 48 ∨ i = 49 ∨ i = 50 ∨ i = 51 ∨ i = 52 ∨ i = 53 ∨ i = 54 ∨ i = 55 ∨ i = 56 ∨ i = 57 ∨ i = 58 ∨ i = 59 ∨ i = 60 ∨ i = 61 ∨ i = 62 ∨ i = 63 ∨ i = 64 ∨ i = 65) with rfl | rfl | rfl | rfl | rfl | rfl | rfl | rfl | rfl | rfl | rfl | rfl | rfl | rfl | rfl | rfl | rfl | rfl | rfl | rfl | rfl | rfl | rfl | rfl | rfl | rfl | rfl | rfl | rfl | rfl | rfl | rfl | rfl | rfl | rfl | rfl | rfl | rfl | rfl | rfl | rfl | rfl | rfl | rfl | rfl | rfl | rfl | rfl | rfl | rfl | rfl | rfl | rfl | rfl | rfl | rfl | rfl | rfl | rfl | rfl | rfl | rfl | rfl | rfl | rfl | rfl
      · cases ho
        refine op_val (v := .agg #[.slice none 0 0, .slice none 0 0]) (w' := w) (by go_simp) ?_
        exact hK _ _ (Gw.refl _) (prg_nil w)
      · cases ho
        have c := two_cells (Hp.out.on hG)
        have c0 := c.1
        have c1 := c.2.1
        have e1 : (mkK p q o v).tmps[2]?.getD undef = .pointer (some ⟨p, 0, none⟩) := rfl
        refine op_val (v := .agg #[.int .i64 1, .int .i64 0]) (w' := w) (by go_simp) ?_
        exact hK _ _ (Gw.refl _) rfl
      · cases ho
        have c := two_cells (Hq.out.on hG)
        have c0 := c.1
        have c1 := c.2.1
        have e1 : (mkK p q o v).tmps[3]?.getD undef = .pointer (some ⟨q, 0, none⟩) := rfl
        refine op_val (v := .agg #[.int .i64 26, .int .i64 0]) (w' := w) (by go_simp) ?_
        exact hK _ _ (Gw.refl _) rfl
      · cases ho
        have e1 : (mkK p q o v).tmps[23]?.getD undef = .agg #[.int .i64 1, .int .i64 0] := hdep ⟨1, .data⟩ (by simp) rfl
        have e2 : (mkK p q o v).tmps[24]?.getD undef = .agg #[.int .i64 26, .int .i64 0] := hdep ⟨2, .data⟩ (by simp) rfl
        refine op_val (v := .slice (some ⟨w.heap.size, 0, none⟩) 2 2) (w' := w.alloc (.cells #[.int .i64 1, .int .i64 0, .int .i64 26, .int .i64 0] 38)) (by go_simp) ?_
        exact hK _ _ (Gw.alloc _ _) ⟨_, rfl, Has.new _ _ _⟩
      · cases ho
        refine op_val (v := .slice (some ⟨w.heap.size, 0, none⟩) 1 1) (w' := w.alloc (.cells #[.string ⟨#[65]⟩] 9)) (by go_simp) ?_
        exact hK _ _ (Gw.alloc _ _) ⟨_, rfl, Has.new _ _ _⟩
      · cases ho
        obtain ⟨g1, h1, k1⟩ : (Sp.row [(1, 0), (26, 0)]).ok (v 3) w := hdep ⟨3, .data⟩ (by simp) rfl
        obtain ⟨g2, h2, k2⟩ : (Sp.str ⟨#[65]⟩).ok (v 4) w := hdep ⟨4, .data⟩ (by simp) rfl
        have e1 : (mkK p q o v).tmps[25]?.getD undef = .slice (some ⟨g1, 0, none⟩) 2 2 := h1
        have e2 : (mkK p q o v).tmps[26]?.getD undef = .slice (some ⟨g2, 0, none⟩) 1 1 := h2
        refine op_val (v := .agg #[.slice (some ⟨g1, 0, none⟩) 2 2, .slice (some ⟨g2, 0, none⟩) 1 1]) (w' := w) (by go_simp) ?_
        exact hK _ _ (Gw.refl _) (prg_of k1 k2 (by decide) (by decide) (by decide))
      · cases ho
        refine op_val (v := xFn) (w' := w) rfl ?_
        exact hK _ _ (Gw.refl _) rfl
      · cases ho
        have c := two_cells (Hp.out.on hG)
        have c0 := c.1
        have c1 := c.2.1
        have e1 : (mkK p q o v).tmps[2]?.getD undef = .pointer (some ⟨p, 0, none⟩) := rfl
        refine op_val (v := .agg #[.int .i64 1, .int .i64 0]) (w' := w) (by go_simp) ?_
        exact hK _ _ (Gw.refl _) rfl
      · cases ho
        refine op_val (v := .agg #[.int .i64 99, .int .i64 0]) (w' := w) (by go_simp) ?_
        exact hK _ _ (Gw.refl _) rfl
      · cases ho
        have c := two_cells (Hq.out.on hG)
        have c0 := c.1
        have c1 := c.2.1
        have e1 : (mkK p q o v).tmps[3]?.getD undef = .pointer (some ⟨q, 0, none⟩) := rfl
        refine op_val (v := .agg #[.int .i64 26, .int .i64 0]) (w' := w) (by go_simp) ?_
        exact hK _ _ (Gw.refl _) rfl
      · cases ho
        have e7 : (mkK p q o v).tmps[29]?.getD undef = .agg #[.int .i64 1, .int .i64 0] := hdep ⟨7, .data⟩ (by simp) rfl
        have e8 : (mkK p q o v).tmps[30]?.getD undef = .agg #[.int .i64 99, .int .i64 0] := hdep ⟨8, .data⟩ (by simp) rfl
        have e9 : (mkK p q o v).tmps[31]?.getD undef = .agg #[.int .i64 26, .int .i64 0] := hdep ⟨9, .data⟩ (by simp) rfl
        refine op_val (v := .slice (some ⟨w.heap.size, 0, none⟩) 3 3) (w' := w.alloc (.cells #[.int .i64 1, .int .i64 0, .int .i64 99, .int .i64 0, .int .i64 26, .int .i64 0] 38)) (by go_simp) ?_
        exact hK _ _ (Gw.alloc _ _) ⟨_, rfl, Has.new _ _ _⟩
      · cases ho
        obtain ⟨g1, h1, k1⟩ : (Sp.row [(1, 0), (99, 0), (26, 0)]).ok (v 10) w := hdep ⟨10, .data⟩ (by simp) rfl
        have e1 : (mkK p q o v).tmps[32]?.getD undef = .slice (some ⟨g1, 0, none⟩) 3 3 := h1
        have e2 : (mkK p q o v).tmps[28]?.getD undef = xFn := hdep ⟨6, .data⟩ (by simp) rfl
        refine op_enter (f := 14) (args := #[.slice (some ⟨g1, 0, none⟩) 3 3]) (by go_simp) ?_
        refine (x_any g1 3 w).mono ?_
        rintro e w2 ⟨g2, rfl, k2, G2⟩
        exact hK _ _ G2 (prg_of (k1.on G2) k2 (by decide) (by decide) (by decide))
      · cases ho
        refine op_val (v := xFn) (w' := w) rfl ?_
        exact hK _ _ (Gw.refl _) rfl
      · cases ho
        refine op_val (v := .agg #[.int .i64 27, .int .i64 1]) (w' := w) (by go_simp) ?_
        exact hK _ _ (Gw.refl _) rfl
      · cases ho
        have c := two_cells (Hq.out.on hG)
        have c0 := c.1
        have c1 := c.2.1
        have e1 : (mkK p q o v).tmps[3]?.getD undef = .pointer (some ⟨q, 0, none⟩) := rfl
        refine op_val (v := .agg #[.int .i64 26, .int .i64 0]) (w' := w) (by go_simp) ?_
        exact hK _ _ (Gw.refl _) rfl
      · cases ho
        have e13 : (mkK p q o v).tmps[35]?.getD undef = .agg #[.int .i64 27, .int .i64 1] := hdep ⟨13, .data⟩ (by simp) rfl
        have e14 : (mkK p q o v).tmps[36]?.getD undef = .agg #[.int .i64 26, .int .i64 0] := hdep ⟨14, .data⟩ (by simp) rfl
        refine op_val (v := .slice (some ⟨w.heap.size, 0, none⟩) 2 2) (w' := w.alloc (.cells #[.int .i64 27, .int .i64 1, .int .i64 26, .int .i64 0] 38)) (by go_simp) ?_
        exact hK _ _ (Gw.alloc _ _) ⟨_, rfl, Has.new _ _ _⟩
      · cases ho
        obtain ⟨g1, h1, k1⟩ : (Sp.row [(27, 1), (26, 0)]).ok (v 15) w := hdep ⟨15, .data⟩ (by simp) rfl
        have e1 : (mkK p q o v).tmps[37]?.getD undef = .slice (some ⟨g1, 0, none⟩) 2 2 := h1
        have e2 : (mkK p q o v).tmps[34]?.getD undef = xFn := hdep ⟨12, .data⟩ (by simp) rfl
        refine op_enter (f := 14) (args := #[.slice (some ⟨g1, 0, none⟩) 2 2]) (by go_simp) ?_
        refine (x_any g1 2 w).mono ?_
        rintro e w2 ⟨g2, rfl, k2, G2⟩
        exact hK _ _ G2 (prg_of (k1.on G2) k2 (by decide) (by decide) (by decide))
      · cases ho
        refine op_val (v := xFn) (w' := w) rfl ?_
        exact hK _ _ (Gw.refl _) rfl
      · cases ho
        refine op_val (v := .agg #[.int .i64 22, .int .i64 2]) (w' := w) (by go_simp) ?_
        exact hK _ _ (Gw.refl _) rfl
      · cases ho
        have c := two_cells (Hq.out.on hG)
        have c0 := c.1
        have c1 := c.2.1
        have e1 : (mkK p q o v).tmps[3]?.getD undef = .pointer (some ⟨q, 0, none⟩) := rfl
        refine op_val (v := .agg #[.int .i64 26, .int .i64 0]) (w' := w) (by go_simp) ?_
        exact hK _ _ (Gw.refl _) rfl
      · cases ho
        have e18 : (mkK p q o v).tmps[40]?.getD undef = .agg #[.int .i64 22, .int .i64 2] := hdep ⟨18, .data⟩ (by simp) rfl
        have e19 : (mkK p q o v).tmps[41]?.getD undef = .agg #[.int .i64 26, .int .i64 0] := hdep ⟨19, .data⟩ (by simp) rfl
        refine op_val (v := .slice (some ⟨w.heap.size, 0, none⟩) 2 2) (w' := w.alloc (.cells #[.int .i64 22, .int .i64 2, .int .i64 26, .int .i64 0] 38)) (by go_simp) ?_
        exact hK _ _ (Gw.alloc _ _) ⟨_, rfl, Has.new _ _ _⟩
      · cases ho
        obtain ⟨g1, h1, k1⟩ : (Sp.row [(22, 2), (26, 0)]).ok (v 20) w := hdep ⟨20, .data⟩ (by simp) rfl
        have e1 : (mkK p q o v).tmps[42]?.getD undef = .slice (some ⟨g1, 0, none⟩) 2 2 := h1
        have e2 : (mkK p q o v).tmps[39]?.getD undef = xFn := hdep ⟨17, .data⟩ (by simp) rfl
        refine op_enter (f := 14) (args := #[.slice (some ⟨g1, 0, none⟩) 2 2]) (by go_simp) ?_
        refine (x_any g1 2 w).mono ?_
        rintro e w2 ⟨g2, rfl, k2, G2⟩
        exact hK _ _ G2 (prg_of (k1.on G2) k2 (by decide) (by decide) (by decide))
      · cases ho
        refine op_val (v := xFn) (w' := w) rfl ?_
        exact hK _ _ (Gw.refl _) rfl
      · cases ho
        have c := two_cells (Hp.out.on hG)
        have c0 := c.1
        have c1 := c.2.1
        have e1 : (mkK p q o v).tmps[2]?.getD undef = .pointer (some ⟨p, 0, none⟩) := rfl
        refine op_val (v := .agg #[.int .i64 1, .int .i64 0]) (w' := w) (by go_simp) ?_
        exact hK _ _ (Gw.refl _) rfl
      · cases ho
        have e23 : (mkK p q o v).tmps[45]?.getD undef = .agg #[.int .i64 1, .int .i64 0] := hdep ⟨23, .data⟩ (by simp) rfl
        refine op_val (v := .slice (some ⟨w.heap.size, 0, none⟩) 1 1) (w' := w.alloc (.cells #[.int .i64 1, .int .i64 0] 38)) (by go_simp) ?_
        exact hK _ _ (Gw.alloc _ _) ⟨_, rfl, Has.new _ _ _⟩
      · cases ho
        obtain ⟨g1, h1, k1⟩ : (Sp.row [(1, 0)]).ok (v 24) w := hdep ⟨24, .data⟩ (by simp) rfl
        have e1 : (mkK p q o v).tmps[46]?.getD undef = .slice (some ⟨g1, 0, none⟩) 1 1 := h1
        have e2 : (mkK p q o v).tmps[44]?.getD undef = xFn := hdep ⟨22, .data⟩ (by simp) rfl
        refine op_enter (f := 14) (args := #[.slice (some ⟨g1, 0, none⟩) 1 1]) (by go_simp) ?_
        refine (x_any g1 1 w).mono ?_
        rintro e w2 ⟨g2, rfl, k2, G2⟩
        exact hK _ _ G2 (prg_of (k1.on G2) k2 (by decide) (by decide) (by decide))
      · cases ho
        refine op_val (v := xFn) (w' := w) rfl ?_
        exact hK _ _ (Gw.refl _) rfl
      · cases ho
        have c := two_cells (Hq.out.on hG)
        have c0 := c.1
        have c1 := c.2.1
        have e1 : (mkK p q o v).tmps[3]?.getD undef = .pointer (some ⟨q, 0, none⟩) := rfl
        refine op_val (v := .agg #[.int .i64 26, .int .i64 0]) (w' := w) (by go_simp) ?_
        exact hK _ _ (Gw.refl _) rfl
      · cases ho
        have e27 : (mkK p q o v).tmps[49]?.getD undef = .agg #[.int .i64 26, .int .i64 0] := hdep ⟨27, .data⟩ (by simp) rfl
        refine op_val (v := .slice (some ⟨w.heap.size, 0, none⟩) 1 1) (w' := w.alloc (.cells #[.int .i64 26, .int .i64 0] 38)) (by go_simp) ?_
        exact hK _ _ (Gw.alloc _ _) ⟨_, rfl, Has.new _ _ _⟩
      · cases ho
        obtain ⟨g1, h1, k1⟩ : (Sp.row [(26, 0)]).ok (v 28) w := hdep ⟨28, .data⟩ (by simp) rfl
        have e1 : (mkK p q o v).tmps[50]?.getD undef = .slice (some ⟨g1, 0, none⟩) 1 1 := h1
        have e2 : (mkK p q o v).tmps[48]?.getD undef = xFn := hdep ⟨26, .data⟩ (by simp) rfl
        refine op_enter (f := 14) (args := #[.slice (some ⟨g1, 0, none⟩) 1 1]) (by go_simp) ?_
        refine (x_any g1 1 w).mono ?_
        rintro e w2 ⟨g2, rfl, k2, G2⟩
        exact hK _ _ G2 (prg_of (k1.on G2) k2 (by decide) (by decide) (by decide))
      · cases ho
        refine op_val (v := xFn) (w' := w) rfl ?_
        exact hK _ _ (Gw.refl _) rfl
      · cases ho
        have c := two_cells (Hp.out.on hG)
        have c0 := c.1
        have c1 := c.2.1
        have e1 : (mkK p q o v).tmps[2]?.getD undef = .pointer (some ⟨p, 0, none⟩) := rfl
        refine op_val (v := .agg #[.int .i64 1, .int .i64 0]) (w' := w) (by go_simp) ?_
        exact hK _ _ (Gw.refl _) rfl
      · cases ho
        refine op_val (v := .agg #[.int .i64 23, .int .i64 3]) (w' := w) (by go_simp) ?_
        exact hK _ _ (Gw.refl _) rfl
      · cases ho
        have c := two_cells (Hp.out.on hG)
        have c0 := c.1
        have c1 := c.2.1
        have e1 : (mkK p q o v).tmps[2]?.getD undef = .pointer (some ⟨p, 0, none⟩) := rfl
        refine op_val (v := .agg #[.int .i64 1, .int .i64 0]) (w' := w) (by go_simp) ?_
        exact hK _ _ (Gw.refl _) rfl
      · cases ho
        have c := two_cells (Hp.out.on hG)
        have c0 := c.1
        have c1 := c.2.1
        have e1 : (mkK p q o v).tmps[2]?.getD undef = .pointer (some ⟨p, 0, none⟩) := rfl
        refine op_val (v := .agg #[.int .i64 1, .int .i64 0]) (w' := w) (by go_simp) ?_
        exact hK _ _ (Gw.refl _) rfl
      · cases ho
        have c := two_cells (Hq.out.on hG)
        have c0 := c.1
        have c1 := c.2.1
        have e1 : (mkK p q o v).tmps[3]?.getD undef = .pointer (some ⟨q, 0, none⟩) := rfl
        refine op_val (v := .agg #[.int .i64 26, .int .i64 0]) (w' := w) (by go_simp) ?_
        exact hK _ _ (Gw.refl _) rfl
      · cases ho
        have e31 : (mkK p q o v).tmps[53]?.getD undef = .agg #[.int .i64 1, .int .i64 0] := hdep ⟨31, .data⟩ (by simp) rfl
        have e32 : (mkK p q o v).tmps[54]?.getD undef = .agg #[.int .i64 23, .int .i64 3] := hdep ⟨32, .data⟩ (by simp) rfl
        have e33 : (mkK p q o v).tmps[55]?.getD undef = .agg #[.int .i64 1, .int .i64 0] := hdep ⟨33, .data⟩ (by simp) rfl
        have e34 : (mkK p q o v).tmps[56]?.getD undef = .agg #[.int .i64 1, .int .i64 0] := hdep ⟨34, .data⟩ (by simp) rfl
        have e35 : (mkK p q o v).tmps[57]?.getD undef = .agg #[.int .i64 26, .int .i64 0] := hdep ⟨35, .data⟩ (by simp) rfl
        refine op_val (v := .slice (some ⟨w.heap.size, 0, none⟩) 5 5) (w' := w.alloc (.cells #[.int .i64 1, .int .i64 0, .int .i64 23, .int .i64 3, .int .i64 1, .int .i64 0, .int .i64 1, .int .i64 0, .int .i64 26, .int .i64 0] 38)) (by go_simp) ?_
        exact hK _ _ (Gw.alloc _ _) ⟨_, rfl, Has.new _ _ _⟩
      · cases ho
        obtain ⟨g1, h1, k1⟩ : (Sp.row [(1, 0), (23, 3), (1, 0), (1, 0), (26, 0)]).ok (v 36) w := hdep ⟨36, .data⟩ (by simp) rfl
        have e1 : (mkK p q o v).tmps[58]?.getD undef = .slice (some ⟨g1, 0, none⟩) 5 5 := h1
        have e2 : (mkK p q o v).tmps[52]?.getD undef = xFn := hdep ⟨30, .data⟩ (by simp) rfl
        refine op_enter (f := 14) (args := #[.slice (some ⟨g1, 0, none⟩) 5 5]) (by go_simp) ?_
        refine (x_any g1 5 w).mono ?_
        rintro e w2 ⟨g2, rfl, k2, G2⟩
        exact hK _ _ G2 (prg_of (k1.on G2) k2 (by decide) (by decide) (by decide))
      · cases ho
        refine op_val (v := xFn) (w' := w) rfl ?_
        exact hK _ _ (Gw.refl _) rfl
      · cases ho
        have c := two_cells (Hp.out.on hG)
        have c0 := c.1
        have c1 := c.2.1
        have e1 : (mkK p q o v).tmps[2]?.getD undef = .pointer (some ⟨p, 0, none⟩) := rfl
        refine op_val (v := .agg #[.int .i64 1, .int .i64 0]) (w' := w) (by go_simp) ?_
        exact hK _ _ (Gw.refl _) rfl
      · cases ho
        have c := two_cells (Hp.out.on hG)
        have c0 := c.1
        have c1 := c.2.1
        have e1 : (mkK p q o v).tmps[2]?.getD undef = .pointer (some ⟨p, 0, none⟩) := rfl
        refine op_val (v := .agg #[.int .i64 1, .int .i64 0]) (w' := w) (by go_simp) ?_
        exact hK _ _ (Gw.refl _) rfl
      · cases ho
        have c := two_cells (Hp.out.on hG)
        have c0 := c.1
        have c1 := c.2.1
        have e1 : (mkK p q o v).tmps[2]?.getD undef = .pointer (some ⟨p, 0, none⟩) := rfl
        refine op_val (v := .agg #[.int .i64 1, .int .i64 0]) (w' := w) (by go_simp) ?_
        exact hK _ _ (Gw.refl _) rfl
      · cases ho
        refine op_val (v := .agg #[.int .i64 23, .int .i64 1]) (w' := w) (by go_simp) ?_
        exact hK _ _ (Gw.refl _) rfl
      · cases ho
        have c := two_cells (Hq.out.on hG)
        have c0 := c.1
        have c1 := c.2.1
        have e1 : (mkK p q o v).tmps[3]?.getD undef = .pointer (some ⟨q, 0, none⟩) := rfl
        refine op_val (v := .agg #[.int .i64 26, .int .i64 0]) (w' := w) (by go_simp) ?_
        exact hK _ _ (Gw.refl _) rfl
      · cases ho
        have e39 : (mkK p q o v).tmps[61]?.getD undef = .agg #[.int .i64 1, .int .i64 0] := hdep ⟨39, .data⟩ (by simp) rfl
        have e40 : (mkK p q o v).tmps[62]?.getD undef = .agg #[.int .i64 1, .int .i64 0] := hdep ⟨40, .data⟩ (by simp) rfl
        have e41 : (mkK p q o v).tmps[63]?.getD undef = .agg #[.int .i64 1, .int .i64 0] := hdep ⟨41, .data⟩ (by simp) rfl
        have e42 : (mkK p q o v).tmps[64]?.getD undef = .agg #[.int .i64 23, .int .i64 1] := hdep ⟨42, .data⟩ (by simp) rfl
        have e43 : (mkK p q o v).tmps[65]?.getD undef = .agg #[.int .i64 26, .int .i64 0] := hdep ⟨43, .data⟩ (by simp) rfl
        refine op_val (v := .slice (some ⟨w.heap.size, 0, none⟩) 5 5) (w' := w.alloc (.cells #[.int .i64 1, .int .i64 0, .int .i64 1, .int .i64 0, .int .i64 1, .int .i64 0, .int .i64 23, .int .i64 1, .int .i64 26, .int .i64 0] 38)) (by go_simp) ?_
        exact hK _ _ (Gw.alloc _ _) ⟨_, rfl, Has.new _ _ _⟩
      · cases ho
        obtain ⟨g1, h1, k1⟩ : (Sp.row [(1, 0), (1, 0), (1, 0), (23, 1), (26, 0)]).ok (v 44) w := hdep ⟨44, .data⟩ (by simp) rfl
        have e1 : (mkK p q o v).tmps[66]?.getD undef = .slice (some ⟨g1, 0, none⟩) 5 5 := h1
        have e2 : (mkK p q o v).tmps[60]?.getD undef = xFn := hdep ⟨38, .data⟩ (by simp) rfl
        refine op_enter (f := 14) (args := #[.slice (some ⟨g1, 0, none⟩) 5 5]) (by go_simp) ?_
        refine (x_any g1 5 w).mono ?_
        rintro e w2 ⟨g2, rfl, k2, G2⟩
        exact hK _ _ G2 (prg_of (k1.on G2) k2 (by decide) (by decide) (by decide))
      · cases ho
        refine op_val (v := xFn) (w' := w) rfl ?_
        exact hK _ _ (Gw.refl _) rfl
      · cases ho
        have c := two_cells (Ho.out.on hG)
        have c0 := c.1
        have c1 := c.2.1
        have e1 : (mkK p q o v).tmps[4]?.getD undef = .pointer (some ⟨o, 0, none⟩) := rfl
        refine op_val (v := .agg #[.int .i64 2, .int .i64 0]) (w' := w) (by go_simp) ?_
        exact hK _ _ (Gw.refl _) rfl
      · cases ho
        have c := two_cells (Hp.out.on hG)
        have c0 := c.1
        have c1 := c.2.1
        have e1 : (mkK p q o v).tmps[2]?.getD undef = .pointer (some ⟨p, 0, none⟩) := rfl
        refine op_val (v := .agg #[.int .i64 1, .int .i64 0]) (w' := w) (by go_simp) ?_
        exact hK _ _ (Gw.refl _) rfl
      · cases ho
        have c := two_cells (Hq.out.on hG)
        have c0 := c.1
        have c1 := c.2.1
        have e1 : (mkK p q o v).tmps[3]?.getD undef = .pointer (some ⟨q, 0, none⟩) := rfl
        refine op_val (v := .agg #[.int .i64 26, .int .i64 0]) (w' := w) (by go_simp) ?_
        exact hK _ _ (Gw.refl _) rfl
      · cases ho
        have e47 : (mkK p q o v).tmps[69]?.getD undef = .agg #[.int .i64 2, .int .i64 0] := hdep ⟨47, .data⟩ (by simp) rfl
        have e48 : (mkK p q o v).tmps[70]?.getD undef = .agg #[.int .i64 1, .int .i64 0] := hdep ⟨48, .data⟩ (by simp) rfl
        have e49 : (mkK p q o v).tmps[71]?.getD undef = .agg #[.int .i64 26, .int .i64 0] := hdep ⟨49, .data⟩ (by simp) rfl
        refine op_val (v := .slice (some ⟨w.heap.size, 0, none⟩) 3 3) (w' := w.alloc (.cells #[.int .i64 2, .int .i64 0, .int .i64 1, .int .i64 0, .int .i64 26, .int .i64 0] 38)) (by go_simp) ?_
        exact hK _ _ (Gw.alloc _ _) ⟨_, rfl, Has.new _ _ _⟩
      · cases ho
        obtain ⟨g1, h1, k1⟩ : (Sp.row [(2, 0), (1, 0), (26, 0)]).ok (v 50) w := hdep ⟨50, .data⟩ (by simp) rfl
        have e1 : (mkK p q o v).tmps[72]?.getD undef = .slice (some ⟨g1, 0, none⟩) 3 3 := h1
        have e2 : (mkK p q o v).tmps[68]?.getD undef = xFn := hdep ⟨46, .data⟩ (by simp) rfl
        refine op_enter (f := 14) (args := #[.slice (some ⟨g1, 0, none⟩) 3 3]) (by go_simp) ?_
        refine (x_any g1 3 w).mono ?_
        rintro e w2 ⟨g2, rfl, k2, G2⟩
        exact hK _ _ G2 (prg_of (k1.on G2) k2 (by decide) (by decide) (by decide))
      · cases ho
        refine op_val (v := xFn) (w' := w) rfl ?_
        exact hK _ _ (Gw.refl _) rfl
      · cases ho
        refine op_val (v := .agg #[.int .i64 22, .int .i64 0]) (w' := w) (by go_simp) ?_
        exact hK _ _ (Gw.refl _) rfl
      · cases ho
        have e53 : (mkK p q o v).tmps[75]?.getD undef = .agg #[.int .i64 22, .int .i64 0] := hdep ⟨53, .data⟩ (by simp) rfl
        refine op_val (v := .slice (some ⟨w.heap.size, 0, none⟩) 1 1) (w' := w.alloc (.cells #[.int .i64 22, .int .i64 0] 38)) (by go_simp) ?_
        exact hK _ _ (Gw.alloc _ _) ⟨_, rfl, Has.new _ _ _⟩
      · cases ho
        obtain ⟨g1, h1, k1⟩ : (Sp.row [(22, 0)]).ok (v 54) w := hdep ⟨54, .data⟩ (by simp) rfl
        have e1 : (mkK p q o v).tmps[76]?.getD undef = .slice (some ⟨g1, 0, none⟩) 1 1 := h1
        have e2 : (mkK p q o v).tmps[74]?.getD undef = xFn := hdep ⟨52, .data⟩ (by simp) rfl
        refine op_enter (f := 14) (args := #[.slice (some ⟨g1, 0, none⟩) 1 1]) (by go_simp) ?_
        refine (x_any g1 1 w).mono ?_
        rintro e w2 ⟨g2, rfl, k2, G2⟩
        exact hK _ _ G2 (prg_of (k1.on G2) k2 (by decide) (by decide) (by decide))
      · cases ho
        refine op_val (v := xFn) (w' := w) rfl ?_
        exact hK _ _ (Gw.refl _) rfl
      · cases ho
        refine op_val (v := .agg #[.int .i64 22, .int .i64 3]) (w' := w) (by go_simp) ?_
        exact hK _ _ (Gw.refl _) rfl
      · cases ho
        have c := two_cells (Ho.out.on hG)
        have c0 := c.1
        have c1 := c.2.1
        have e1 : (mkK p q o v).tmps[4]?.getD undef = .pointer (some ⟨o, 0, none⟩) := rfl
        refine op_val (v := .agg #[.int .i64 2, .int .i64 0]) (w' := w) (by go_simp) ?_
        exact hK _ _ (Gw.refl _) rfl
      · cases ho
        have c := two_cells (Hq.out.on hG)
        have c0 := c.1
        have c1 := c.2.1
        have e1 : (mkK p q o v).tmps[3]?.getD undef = .pointer (some ⟨q, 0, none⟩) := rfl
        refine op_val (v := .agg #[.int .i64 26, .int .i64 0]) (w' := w) (by go_simp) ?_
        exact hK _ _ (Gw.refl _) rfl
      · cases ho
        have c := two_cells (Hp.out.on hG)
        have c0 := c.1
        have c1 := c.2.1
        have e1 : (mkK p q o v).tmps[2]?.getD undef = .pointer (some ⟨p, 0, none⟩) := rfl
        refine op_val (v := .agg #[.int .i64 1, .int .i64 0]) (w' := w) (by go_simp) ?_
        exact hK _ _ (Gw.refl _) rfl
      · cases ho
        have c := two_cells (Hq.out.on hG)
        have c0 := c.1
        have c1 := c.2.1
        have e1 : (mkK p q o v).tmps[3]?.getD undef = .pointer (some ⟨q, 0, none⟩) := rfl
        refine op_val (v := .agg #[.int .i64 26, .int .i64 0]) (w' := w) (by go_simp) ?_
        exact hK _ _ (Gw.refl _) rfl
      · cases ho
        have e57 : (mkK p q o v).tmps[79]?.getD undef = .agg #[.int .i64 22, .int .i64 3] := hdep ⟨57, .data⟩ (by simp) rfl
        have e58 : (mkK p q o v).tmps[80]?.getD undef = .agg #[.int .i64 2, .int .i64 0] := hdep ⟨58, .data⟩ (by simp) rfl
        have e59 : (mkK p q o v).tmps[81]?.getD undef = .agg #[.int .i64 26, .int .i64 0] := hdep ⟨59, .data⟩ (by simp) rfl
        have e60 : (mkK p q o v).tmps[82]?.getD undef = .agg #[.int .i64 1, .int .i64 0] := hdep ⟨60, .data⟩ (by simp) rfl
        have e61 : (mkK p q o v).tmps[83]?.getD undef = .agg #[.int .i64 26, .int .i64 0] := hdep ⟨61, .data⟩ (by simp) rfl
        refine op_val (v := .slice (some ⟨w.heap.size, 0, none⟩) 5 5) (w' := w.alloc (.cells #[.int .i64 22, .int .i64 3, .int .i64 2, .int .i64 0, .int .i64 26, .int .i64 0, .int .i64 1, .int .i64 0, .int .i64 26, .int .i64 0] 38)) (by go_simp) ?_
        exact hK _ _ (Gw.alloc _ _) ⟨_, rfl, Has.new _ _ _⟩
      · cases ho
        obtain ⟨g1, h1, k1⟩ : (Sp.row [(22, 3), (2, 0), (26, 0), (1, 0), (26, 0)]).ok (v 62) w := hdep ⟨62, .data⟩ (by simp) rfl
        have e1 : (mkK p q o v).tmps[84]?.getD undef = .slice (some ⟨g1, 0, none⟩) 5 5 := h1
        have e2 : (mkK p q o v).tmps[78]?.getD undef = xFn := hdep ⟨56, .data⟩ (by simp) rfl
        refine op_enter (f := 14) (args := #[.slice (some ⟨g1, 0, none⟩) 5 5]) (by go_simp) ?_
        refine (x_any g1 5 w).mono ?_
        rintro e w2 ⟨g2, rfl, k2, G2⟩
        exact hK _ _ G2 (prg_of (k1.on G2) k2 (by decide) (by decide) (by decide))
      · cases ho
        obtain ⟨A0, a0, B0, b0, h0, k0⟩ : PrgV w (v 0) [] [] := hdep ⟨0, .data⟩ (by simp) rfl
        have e0 : (mkK p q o v).tmps[22]?.getD undef = .agg #[.slice A0 0 a0, .slice B0 0 b0] := h0
        obtain ⟨A1, a1, B1, b1, h1, k1⟩ : PrgV w (v 5) [(1, 0), (26, 0)] [⟨#[65]⟩] := hdep ⟨5, .data⟩ (by simp) rfl
        have e1 : (mkK p q o v).tmps[27]?.getD undef = .agg #[.slice A1 2 a1, .slice B1 1 b1] := h1
        obtain ⟨A2, a2, B2, b2, h2, k2⟩ : PrgV w (v 11) [(1, 0), (99, 0), (26, 0)] [⟨#[97]⟩] := hdep ⟨11, .data⟩ (by simp) rfl
        have e2 : (mkK p q o v).tmps[33]?.getD undef = .agg #[.slice A2 3 a2, .slice B2 1 b2] := h2
        obtain ⟨A3, a3, B3, b3, h3, k3⟩ : PrgV w (v 16) [(27, 1), (26, 0)] [⟨#[97]⟩] := hdep ⟨16, .data⟩ (by simp) rfl
        have e3 : (mkK p q o v).tmps[38]?.getD undef = .agg #[.slice A3 2 a3, .slice B3 1 b3] := h3
        obtain ⟨A4, a4, B4, b4, h4, k4⟩ : PrgV w (v 21) [(22, 2), (26, 0)] [⟨#[97]⟩] := hdep ⟨21, .data⟩ (by simp) rfl
        have e4 : (mkK p q o v).tmps[43]?.getD undef = .agg #[.slice A4 2 a4, .slice B4 1 b4] := h4
        obtain ⟨A5, a5, B5, b5, h5, k5⟩ : PrgV w (v 25) [(1, 0)] [⟨#[97]⟩] := hdep ⟨25, .data⟩ (by simp) rfl
        have e5 : (mkK p q o v).tmps[47]?.getD undef = .agg #[.slice A5 1 a5, .slice B5 1 b5] := h5
        obtain ⟨A6, a6, B6, b6, h6, k6⟩ : PrgV w (v 29) [(26, 0)] [⟨#[97]⟩] := hdep ⟨29, .data⟩ (by simp) rfl
        have e6 : (mkK p q o v).tmps[51]?.getD undef = .agg #[.slice A6 1 a6, .slice B6 1 b6] := h6
        obtain ⟨A7, a7, B7, b7, h7, k7⟩ : PrgV w (v 37) [(1, 0), (23, 3), (1, 0), (1, 0), (26, 0)] [⟨#[97]⟩] := hdep ⟨37, .data⟩ (by simp) rfl
        have e7 : (mkK p q o v).tmps[59]?.getD undef = .agg #[.slice A7 5 a7, .slice B7 1 b7] := h7
        obtain ⟨A8, a8, B8, b8, h8, k8⟩ : PrgV w (v 45) [(1, 0), (1, 0), (1, 0), (23, 1), (26, 0)] [⟨#[97]⟩] := hdep ⟨45, .data⟩ (by simp) rfl
        have e8 : (mkK p q o v).tmps[67]?.getD undef = .agg #[.slice A8 5 a8, .slice B8 1 b8] := h8
        obtain ⟨A9, a9, B9, b9, h9, k9⟩ : PrgV w (v 51) [(2, 0), (1, 0), (26, 0)] [⟨#[97]⟩] := hdep ⟨51, .data⟩ (by simp) rfl
        have e9 : (mkK p q o v).tmps[73]?.getD undef = .agg #[.slice A9 3 a9, .slice B9 1 b9] := h9
        obtain ⟨A10, a10, B10, b10, h10, k10⟩ : PrgV w (v 55) [(22, 0)] [⟨#[97]⟩] := hdep ⟨55, .data⟩ (by simp) rfl
        have e10 : (mkK p q o v).tmps[77]?.getD undef = .agg #[.slice A10 1 a10, .slice B10 1 b10] := h10
        obtain ⟨A11, a11, B11, b11, h11, k11⟩ : PrgV w (v 63) [(22, 3), (2, 0), (26, 0), (1, 0), (26, 0)] [⟨#[97]⟩] := hdep ⟨63, .data⟩ (by simp) rfl
        have e11 : (mkK p q o v).tmps[85]?.getD undef = .agg #[.slice A11 5 a11, .slice B11 1 b11] := h11
        refine op_val (v := .slice (some ⟨w.heap.size, 0, none⟩) 12 12) (w' := w.alloc (.cells #[.slice A0 0 a0, .slice B0 0 b0, .slice A1 2 a1, .slice B1 1 b1, .slice A2 3 a2, .slice B2 1 b2, .slice A3 2 a3, .slice B3 1 b3, .slice A4 2 a4, .slice B4 1 b4, .slice A5 1 a5, .slice B5 1 b5, .slice A6 1 a6, .slice B6 1 b6, .slice A7 5 a7, .slice B7 1 b7, .slice A8 5 a8, .slice B8 1 b8, .slice A9 3 a9, .slice B9 1 b9, .slice A10 1 a10, .slice B10 1 b10, .slice A11 5 a11, .slice B11 1 b11] 25)) (by go_simp) ?_
        refine hK _ _ (Gw.alloc _ _) ⟨_, _, rfl, Has.new _ _ _, fun i hi => ?_⟩
        rcases (by omega : i = 0 ∨ i = 1 ∨ i = 2 ∨ i = 3 ∨ i = 4 ∨ i = 5 ∨ i = 6 ∨ i = 7 ∨ i = 8 ∨ i = 9 ∨ i = 10 ∨ i = 11) with rfl | rfl | rfl | rfl | rfl | rfl | rfl | rfl | rfl | rfl | rfl | rfl
        · exact ⟨A0, a0, B0, b0, rfl, rfl, k0.gw (Gw.alloc _ _)⟩
        · exact ⟨A1, a1, B1, b1, rfl, rfl, k1.gw (Gw.alloc _ _)⟩
        · exact ⟨A2, a2, B2, b2, rfl, rfl, k2.gw (Gw.alloc _ _)⟩
        · exact ⟨A3, a3, B3, b3, rfl, rfl, k3.gw (Gw.alloc _ _)⟩
        · exact ⟨A4, a4, B4, b4, rfl, rfl, k4.gw (Gw.alloc _ _)⟩
        · exact ⟨A5, a5, B5, b5, rfl, rfl, k5.gw (Gw.alloc _ _)⟩
        · exact ⟨A6, a6, B6, b6, rfl, rfl, k6.gw (Gw.alloc _ _)⟩
        · exact ⟨A7, a7, B7, b7, rfl, rfl, k7.gw (Gw.alloc _ _)⟩
        · exact ⟨A8, a8, B8, b8, rfl, rfl, k8.gw (Gw.alloc _ _)⟩
        · exact ⟨A9, a9, B9, b9, rfl, rfl, k9.gw (Gw.alloc _ _)⟩
        · exact ⟨A10, a10, B10, b10, rfl, rfl, k10.gw (Gw.alloc _ _)⟩
        · exact ⟨A11, a11, B11, b11, rfl, rfl, k11.gw (Gw.alloc _ _)⟩
      · cases ho
        obtain ⟨g, cs, h1, h2⟩ : Sp.all.ok (v 64) w := hdep ⟨64, .data⟩ (by simp) rfl
        have e1 : (mkK p q o v).tmps[86]?.getD undef = .slice (some ⟨g, 0, none⟩) 12 12 := h1
        refine op_val (v := .slice (some ⟨g, 0, none⟩) 12 12) (w' := w) (by go_simp) ?_
        exact hK _ _ (Gw.refl _) ⟨g, cs, rfl, h2⟩
    · intro v w hG hall
      have h65 := Lib.hid (hall 65 (by decide))
      have hG := Lib.hid hG
      dsimp only [mkK]
      clear hall
      generalize v 65 = v65 at *
      go_wp2_with fail
      go_meet
      exact ⟨h65.out, hG.out⟩

  case rest =>
    obtain ⟨HA, HGW⟩ := hcut
    obtain ⟨ga, cs, rfl, HC, HPR⟩ := HA.out
    have HCC := Lib.hid HC
    have HPP := Lib.hid HPR
    clear HA HC HPR
    have Hp2 := Lib.hid (Hp.out.on HGW.out)
    have Hq2 := Lib.hid (Hq.out.on HGW.out)
    have HG2 := Lib.hid (HGb.out.trans HGW.out)
    clear Hp Hq Ho HGb HGW
    have HAT0 := Lib.hid (Has.new wc 3 #[.int .i64 0, .int .i64 0, .int .i64 1, .int .i64 0, .int .i64 0, .int .i64 0, .int .i64 0, .int .i64 3, .int .i64 1, .int .i64 0, .int .i64 0, .int .i64 0])
    have HWA0 := Lib.hid (Has.new (wc.alloc (.cells #[.int .i64 0, .int .i64 0, .int .i64 1, .int .i64 0, .int .i64 0, .int .i64 0, .int .i64 0, .int .i64 3, .int .i64 1, .int .i64 0, .int .i64 0, .int .i64 0] 3)) 28 #[.int .i64 3, .int .i64 10, .int .i64 5, .int .i64 10, .int .i64 6, .int .i64 8, .int .i64 7, .int .i64 7, .int .i64 7, .int .i64 7, .int .i64 0, .int .i64 0])
    rw [size_alloc] at HWA0
    go_upto_region 8 with fail
    have HAT := Lib.hid (HAT0.out.on (Gw.alloc _ (.cells #[.int .i64 3, .int .i64 10, .int .i64 5, .int .i64 10, .int .i64 6, .int .i64 8, .int .i64 7, .int .i64 7, .int .i64 7, .int .i64 7, .int .i64 0, .int .i64 0] 28)))
    have HWA := HWA0
    have G3 := Lib.hid ((Gw.alloc wc (.cells #[.int .i64 0, .int .i64 0, .int .i64 1, .int .i64 0, .int .i64 0, .int .i64 0, .int .i64 0, .int .i64 3, .int .i64 1, .int .i64 0, .int .i64 0, .int .i64 0] 3)).trans (Gw.alloc _ (.cells #[.int .i64 3, .int .i64 10, .int .i64 5, .int .i64 10, .int .i64 6, .int .i64 8, .int .i64 7, .int .i64 7, .int .i64 7, .int .i64 7, .int .i64 0, .int .i64 0] 28)))
    clear HAT0 HWA0
    generalize (wc.alloc (.cells #[.int .i64 0, .int .i64 0, .int .i64 1, .int .i64 0, .int .i64 0, .int .i64 0, .int .i64 0, .int .i64 3, .int .i64 1, .int .i64 0, .int .i64 0, .int .i64 0] 3)).alloc (.cells #[.int .i64 3, .int .i64 10, .int .i64 5, .int .i64 10, .int .i64 6, .int .i64 8, .int .i64 7, .int .i64 7, .int .i64 7, .int .i64 7, .int .i64 0, .int .i64 0] 28) = wd at *
    have Hp3 := Lib.hid (Hp2.out.on G3.out)
    have Hq3 := Lib.hid (Hq2.out.on G3.out)
    have HC3 := Lib.hid (HCC.out.on G3.out)
    have HPP3 : Hid (∀ i, i < 12 → ∃ A ca B cb, cs[i * 2]? = some (.slice A (progsK.getD i ([], [])).1.length ca) ∧ cs[i * 2 + 1]? = some (.slice B (progsK.getD i ([], [])).2.length cb) ∧ POk wd A (progsK.getD i ([], [])).1 ca B (progsK.getD i ([], [])).2 cb) := fun i hi => by
      obtain ⟨A, ca, B, cb, h1, h2, h3⟩ := HPP.out i hi
      exact ⟨A, ca, B, cb, h1, h2, h3.gw G3.out⟩
    have HG3 := Lib.hid (HG2.out.trans G3.out)
    clear Hp2 Hq2 HCC HPP HG2 G3
    generalize wc.heap.size = ba at *
    generalize hbw : ba + 1 = bw at *
    clear hbw
    go_wp2
    go_loopw [8] (fun i wr => ∃ k : Nat, k ≤ 12 ∧ i = .int .i64 k ∧ Hid (Gw wd wr)) (fun i _ => 12 - (intOf i).toNat)
    case atStart => exact ⟨0, by omega, rfl, Gw.refl _⟩
    case round =>
      obtain ⟨k, hk, rfl, G⟩ := hrel
      by_cases hlt : k < 12
      · obtain ⟨hsk, hIs⟩ := isK k hlt
        have HIS := Lib.hid hIs
        obtain ⟨A, ca, B, cb, q1, q2, hpok⟩ := HPP3.out k hlt
        have d0 : wr.cell? ⟨ga, k * 2, none⟩ = _ := ((HC3.out.on G.out).cell (k * 2)).trans q1
        have d1 : wr.cell? ⟨ga, k * 2 + 1, none⟩ = _ := ((HC3.out.on G.out).cell (k * 2 + 1)).trans q2
        have HPO := Lib.hid (hpok.gw G.out)
        clear q1 q2 hpok
        have hL96 : Hid (hsk.length = (progsK.getD k ([], [])).1.length ∧ 0 < (progsK.getD k ([], [])).1.length ↔ wantK k = 0) := isK_len hlt HIS.out
        have R1 := r HPO.out
        have hkI : (k : Int) < 12 := by omega
        generalize (progsK.getD k ([], [])).1 = L at *
        generalize (progsK.getD k ([], [])).2 = N at *
        go_upto_region 12 with (go_at_call 10; with_reducible refine R1.mono ?_; rintro e w2 ⟨kr, fr, hr, rfl, hI2, G2⟩)
        obtain ⟨rfl, rfl, rfl⟩ := Is.det hI2 HIS.out
        clear hI2 R1
        have caK : wd.cell? ⟨ba, k, none⟩ = some (.int .i64 (atK k)) := (HAT.out.cell k).trans (atK_at hlt)
        have cwK : wd.cell? ⟨bw, k, none⟩ = some (.int .i64 (wantK k)) := (HWA.out.cell k).trans (wantK_at hlt)
        have G5 := Lib.hid (G.out.trans G2)
        have caK' := G5.out.cell caK
        have cwK' := G5.out.cell cwK
        have HPO2 := Lib.hid (HPO.out.gw G2)
        have d0' := G2.cell d0
        have d1' := G2.cell d1
        clear caK cwK d0 d1 HPO G2
        obtain ⟨b0, hb0⟩ : ∃ b, (wantK k == 0) = b := ⟨_, rfl⟩
        obtain ⟨b1, hb1⟩ : ∃ b, (hr.length == L.length) = b := ⟨_, rfl⟩
        obtain ⟨b2, hb2⟩ : ∃ b, decide (0 < L.length) = b := ⟨_, rfl⟩
        have hbb : b0 = (b1 && b2) := by
          have := hL96.out
          rw [← hb0, ← hb1, ← hb2, Bool.eq_iff_iff, beq_iff_eq, Bool.and_eq_true, beq_iff_eq, decide_eq_true_eq]
          exact this.symm
        have HB := Lib.hid hbb
        have HB1 := Lib.hid hb1
        have HB2 := Lib.hid hb2
        have HB0 := Lib.hid hb0
        clear hbb hb0 hb1 hb2 hL96
        generalize atK k = av at *
        generalize wantK k = wv at *
        obtain ⟨we, hwe⟩ : ∃ x, x = w2 := ⟨_, rfl⟩
        subst hwe
        go_cut [143] (fun s wx => s = .bool false ∧ Hid (Gw we wx))
        case first =>
          show (Code.region 12 _ true).wp _ _ (mkR (fun i => ([u0, xFn, .pointer (some ⟨p, 0, none⟩), .pointer (some ⟨q, 0, none⟩), .pointer (some ⟨o, 0, none⟩), .slice (some ⟨ga, 0, none⟩) 12 12, .slice (some ⟨ba, 0, none⟩) 12 12, .slice (some ⟨bw, 0, none⟩) 12 12, .int .i64 (k : Int), .int .i64 av, .int .i64 wv, undef, undef, undef, undef, undef, undef, u17, u18, u19, u20, u21, u22, u23, u24, u25, u26, u27, u28, u29, u30, u31, u32, u33, u34, u35, u36, u37, u38, u39, u40, u41, u42, u43, u44, u45, u46, u47, u48, u49, u50, u51, u52, u53, u54, u55, u56, u57, u58, u59, u60, u61, u62, u63, u64, u65, u66, u67, u68, u69, u70, u71, u72, u73, u74, u75, u76, u77, u78, u79, u80, u81, u82, u83, u84, u85, u86, .slice (some ⟨ba, 0, none⟩) 12 12, .slice (some ⟨bw, 0, none⟩) 12 12, .int .i64 (k : Int), .slice (some ⟨ga, 0, none⟩) 12 12, .int .i64 12, .bool true, u93, u94, .tuple #[.int .i64 av, .int .i64 wv], .slice (some ⟨ga, 0, none⟩) 12 12, .int .i64 (k : Int), .pointer (some ⟨ga, k * 2, none⟩), .agg #[.slice A L.length ca, .slice B N.length cb], .tuple #[.int .i64 av, .int .i64 wv], .int .i64 av, .int .i64 wv, u103, u104, u105, u106, u107, u108, u109, u110, u111, u112, u113, u114, u115, u116, u117, u118, u119, u120, u121, u122, u123, u124, u125, u126, u127, u128, u129, u130, u131, u132, u133, u134, u135, u136, u137, u138, u139, u140, u141, u142, u143, u144, u145, u146, u147, u148, u149, u150, u151, u152, u153, u154, u155, u156, u157, u158, u159, u160, u161, u162, u163, u164, u165, u166, u167, u168, u169, u170, u171, u172, u173, u174, u175, u176, u177, u178, u179, u180, u181, u182, u183, u184, u185, u186, u187, u188, u189, u190, u191, u192, u193, u194, u195, u196, u197] : List Value).getD i undef) (fun j => ([u103, u104, u105, u106, u107, u108, u109, u110, u111, u112, u113, u114, u115, u116, u117, u118, u119, u120, u121, u122, u123, u124, u125, u126, u127, u128, u129, u130, u131, u132, u133, u134, u135, u136, u137, u138, u139, u140, u141, u142, u143] : List Value).getD j undef)) _
          generalize hU : (fun i => ([u0, xFn, .pointer (some ⟨p, 0, none⟩), .pointer (some ⟨q, 0, none⟩), .pointer (some ⟨o, 0, none⟩), .slice (some ⟨ga, 0, none⟩) 12 12, .slice (some ⟨ba, 0, none⟩) 12 12, .slice (some ⟨bw, 0, none⟩) 12 12, .int .i64 (k : Int), .int .i64 av, .int .i64 wv, undef, undef, undef, undef, undef, undef, u17, u18, u19, u20, u21, u22, u23, u24, u25, u26, u27, u28, u29, u30, u31, u32, u33, u34, u35, u36, u37, u38, u39, u40, u41, u42, u43, u44, u45, u46, u47, u48, u49, u50, u51, u52, u53, u54, u55, u56, u57, u58, u59, u60, u61, u62, u63, u64, u65, u66, u67, u68, u69, u70, u71, u72, u73, u74, u75, u76, u77, u78, u79, u80, u81, u82, u83, u84, u85, u86, .slice (some ⟨ba, 0, none⟩) 12 12, .slice (some ⟨bw, 0, none⟩) 12 12, .int .i64 (k : Int), .slice (some ⟨ga, 0, none⟩) 12 12, .int .i64 12, .bool true, u93, u94, .tuple #[.int .i64 av, .int .i64 wv], .slice (some ⟨ga, 0, none⟩) 12 12, .int .i64 (k : Int), .pointer (some ⟨ga, k * 2, none⟩), .agg #[.slice A L.length ca, .slice B N.length cb], .tuple #[.int .i64 av, .int .i64 wv], .int .i64 av, .int .i64 wv, u103, u104, u105, u106, u107, u108, u109, u110, u111, u112, u113, u114, u115, u116, u117, u118, u119, u120, u121, u122, u123, u124, u125, u126, u127, u128, u129, u130, u131, u132, u133, u134, u135, u136, u137, u138, u139, u140, u141, u142, u143, u144, u145, u146, u147, u148, u149, u150, u151, u152, u153, u154, u155, u156, u157, u158, u159, u160, u161, u162, u163, u164, u165, u166, u167, u168, u169, u170, u171, u172, u173, u174, u175, u176, u177, u178, u179, u180, u181, u182, u183, u184, u185, u186, u187, u188, u189, u190, u191, u192, u193, u194, u195, u196, u197] : List Value).getD i undef) = U
          have hU9 : U 9 = .int .i64 av := by rw [← hU]; rfl
          have hU10 : U 10 = .int .i64 wv := by rw [← hU]; rfl
          have hU6 : U 6 = .slice (some ⟨ba, 0, none⟩) 12 12 := by rw [← hU]; rfl
          have hU7 : U 7 = .slice (some ⟨bw, 0, none⟩) 12 12 := by rw [← hU]; rfl
          have hU5 : U 5 = .slice (some ⟨ga, 0, none⟩) 12 12 := by rw [← hU]; rfl
          have hU8 : U 8 = .int .i64 (k : Int) := by rw [← hU]; rfl
          have HU := Lib.hid hU
          clear hU
          refine region_guards (mk := mkR U) (Ok := fun j v w => (S12.ok ((sp12 av wv k ga ba bw A B L.length ca N.length cb hr.length b0 b1 b2).getD j (.val undef)) v)) (n := 41) ?_ (by kernel_rfl) ?_ (fun j v w w' h _ => h) ?_ ?_ ?_
          · rfl
          · exact ops_wf (by decide +kernel)
          · intro i o' v x ho
            have hi : i < 41 := (Array.getElem?_eq_some_iff.1 ho).1
            rcases (by omega : i = 0 ∨ i = 1 ∨ i = 2 ∨ i = 3 ∨ i = 4 ∨ i = 5 ∨ i = 6 ∨ i = 7 ∨ i = 8 ∨ i = 9 ∨ i = 10 ∨ i = 11 ∨ i = 12 ∨ i = 13 ∨ i = 14 ∨ i = 15 ∨ i = 16 ∨ i = 17 ∨ i = 18 ∨ i = 19 ∨ i = 20 ∨ i = 21 ∨ i = 22 ∨ i = 23 ∨ i = 24 ∨ i = 25 ∨ i = 26 ∨ i = 27 ∨ i = 28 ∨ i = 29 ∨ i = 30 ∨ i = 31 ∨ i = 32 ∨ i = 33 ∨ i = 34 ∨ i = 35 ∨ i = 36 ∨ i = 37 ∨ i = 38 ∨ i = 39 ∨ i = 40) with rfl | rfl | rfl | rfl | rfl | rfl | rfl | rfl | rfl | rfl | rfl | rfl | rfl | rfl | rfl | rfl | rfl | rfl | rfl | rfl | rfl | rfl | rfl | rfl | rfl | rfl | rfl | rfl | rfl | rfl | rfl | rfl | rfl | rfl | rfl | rfl | rfl | rfl | rfl | rfl | rfl
            all_goals (cases ho; rfl)
          · intro i o' v w ho hG hdep
            have hi : i < 41 := (Array.getElem?_eq_some_iff.1 ho).1
            rcases (by omega : i = 0 ∨ i = 1 ∨ i = 2 ∨ i = 3 ∨ i = 4 ∨ i = 5 ∨ i = 6 ∨ i = 7 ∨ i = 8 ∨ i = 9 ∨ i = 10 ∨ i = 11 ∨ i = 12 ∨ i = 13 ∨ i = 14 ∨ i = 15 ∨ i = 16 ∨ i = 17 ∨ i = 18 ∨ i = 19 ∨ i = 20 ∨ i = 21 ∨ i = 22 ∨ i = 23 ∨ i = 24 ∨ i = 25 ∨ i = 26 ∨ i = 27 ∨ i = 28 ∨ i = 29 ∨ i = 30 ∨ i = 31 ∨ i = 32 ∨ i = 33 ∨ i = 34 ∨ i = 35 ∨ i = 36 ∨ i = 37 ∨ i = 38 ∨ i = 39 ∨ i = 40) with rfl | rfl | rfl | rfl | rfl | rfl | rfl | rfl | rfl | rfl | rfl | rfl | rfl | rfl | rfl | rfl | rfl | rfl | rfl | rfl | rfl | rfl | rfl | rfl | rfl | rfl | rfl | rfl | rfl | rfl | rfl | rfl | rfl | rfl | rfl | rfl | rfl | rfl | rfl | rfl | rfl
            · cases ho
              refine .inr ⟨rfl, fun K hK => ?_⟩
              have s9 : (mkR U v).tmps[9]?.getD undef = .int .i64 av := hU9
              refine op_val (v := .int .i64 av) (w' := w) (by go_simp) ?_
              exact hK _ _ (Gw.refl _) rfl
            · cases ho
              refine .inr ⟨rfl, fun K hK => ?_⟩
              have s6 : (mkR U v).tmps[6]?.getD undef = .slice (some ⟨ba, 0, none⟩) 12 12 := hU6
              refine op_val (v := .slice (some ⟨ba, 0, none⟩) 12 12) (w' := w) (by go_simp) ?_
              exact hK _ _ (Gw.refl _) rfl
            · cases ho
              refine .inr ⟨rfl, fun K hK => ?_⟩
              have s8 : (mkR U v).tmps[8]?.getD undef = .int .i64 (k : Int) := hU8
              refine op_val (v := .int .i64 (k : Int)) (w' := w) (by go_simp) ?_
              exact hK _ _ (Gw.refl _) rfl
            · cases ho
              refine .inr ⟨rfl, fun K hK => ?_⟩
              have e1 : (mkR U v).tmps[104]?.getD undef = .slice (some ⟨ba, 0, none⟩) 12 12 := hdep ⟨1, .data⟩ (by simp) rfl
              have e2 : (mkR U v).tmps[105]?.getD undef = .int .i64 (k : Int) := hdep ⟨2, .data⟩ (by simp) rfl
              refine op_val (v := .pointer (some ⟨ba, k, none⟩)) (w' := w) (by go_simp) ?_
              exact hK _ _ (Gw.refl _) rfl
            · cases ho
              refine .inr ⟨rfl, fun K hK => ?_⟩
              have e3 : (mkR U v).tmps[106]?.getD undef = .pointer (some ⟨ba, k, none⟩) := hdep ⟨3, .data⟩ (by simp) rfl
              have f0 := hG.cell caK'
              refine op_val (v := .int .i64 av) (w' := w) (by go_simp) ?_
              exact hK _ _ (Gw.refl _) rfl
            · cases ho
              refine .inr ⟨rfl, fun K hK => ?_⟩
              have e0 : (mkR U v).tmps[103]?.getD undef = .int .i64 av := hdep ⟨0, .data⟩ (by simp) rfl
              have e4 : (mkR U v).tmps[107]?.getD undef = .int .i64 av := hdep ⟨4, .data⟩ (by simp) rfl
              refine op_val (v := .bool false) (w' := w) (by go_simp) ?_
              exact hK _ _ (Gw.refl _) rfl
            · cases ho
              refine .inr ⟨rfl, fun K hK => ?_⟩
              have e5 : (mkR U v).tmps[108]?.getD undef = .bool false := hdep ⟨5, .data⟩ (by simp) rfl
              refine op_val (v := .bool false) (w' := w) (by go_simp) ?_
              exact hK _ _ (Gw.refl _) rfl
            · cases ho
              have hw : v 6 = .bool false := hdep ⟨6, .guard⟩ (by simp) rfl
              refine .inr ⟨(wanted_of (d := 109) (c := false) rfl rfl (congrArg some hw)).trans rfl, fun K hK => ?_⟩
              have s10 : (mkR U v).tmps[10]?.getD undef = .int .i64 wv := hU10
              refine op_val (v := .int .i64 wv) (w' := w) (by go_simp) ?_
              exact hK _ _ (Gw.refl _) rfl
            · cases ho
              have hw : v 6 = .bool false := hdep ⟨6, .guard⟩ (by simp) rfl
              refine .inr ⟨(wanted_of (d := 109) (c := false) rfl rfl (congrArg some hw)).trans rfl, fun K hK => ?_⟩
              have s7 : (mkR U v).tmps[7]?.getD undef = .slice (some ⟨bw, 0, none⟩) 12 12 := hU7
              refine op_val (v := .slice (some ⟨bw, 0, none⟩) 12 12) (w' := w) (by go_simp) ?_
              exact hK _ _ (Gw.refl _) rfl
            · cases ho
              have hw : v 6 = .bool false := hdep ⟨6, .guard⟩ (by simp) rfl
              refine .inr ⟨(wanted_of (d := 109) (c := false) rfl rfl (congrArg some hw)).trans rfl, fun K hK => ?_⟩
              have s8 : (mkR U v).tmps[8]?.getD undef = .int .i64 (k : Int) := hU8
              refine op_val (v := .int .i64 (k : Int)) (w' := w) (by go_simp) ?_
              exact hK _ _ (Gw.refl _) rfl
            · cases ho
              have hw : v 6 = .bool false := hdep ⟨6, .guard⟩ (by simp) rfl
              refine .inr ⟨(wanted_of (d := 109) (c := false) rfl rfl (congrArg some hw)).trans rfl, fun K hK => ?_⟩
              have e8 : (mkR U v).tmps[111]?.getD undef = .slice (some ⟨bw, 0, none⟩) 12 12 := hdep ⟨8, .data⟩ (by simp) rfl
              have e9 : (mkR U v).tmps[112]?.getD undef = .int .i64 (k : Int) := hdep ⟨9, .data⟩ (by simp) rfl
              refine op_val (v := .pointer (some ⟨bw, k, none⟩)) (w' := w) (by go_simp) ?_
              exact hK _ _ (Gw.refl _) rfl
            · cases ho
              have hw : v 6 = .bool false := hdep ⟨6, .guard⟩ (by simp) rfl
              refine .inr ⟨(wanted_of (d := 109) (c := false) rfl rfl (congrArg some hw)).trans rfl, fun K hK => ?_⟩
              have e10 : (mkR U v).tmps[113]?.getD undef = .pointer (some ⟨bw, k, none⟩) := hdep ⟨10, .data⟩ (by simp) rfl
              have f0 := hG.cell cwK'
              refine op_val (v := .int .i64 wv) (w' := w) (by go_simp) ?_
              exact hK _ _ (Gw.refl _) rfl
            · cases ho
              have hw : v 6 = .bool false := hdep ⟨6, .guard⟩ (by simp) rfl
              refine .inr ⟨(wanted_of (d := 109) (c := false) rfl rfl (congrArg some hw)).trans rfl, fun K hK => ?_⟩
              have e7 : (mkR U v).tmps[110]?.getD undef = .int .i64 wv := hdep ⟨7, .data⟩ (by simp) rfl
              have e11 : (mkR U v).tmps[114]?.getD undef = .int .i64 wv := hdep ⟨11, .data⟩ (by simp) rfl
              refine op_val (v := .bool false) (w' := w) (by go_simp) ?_
              exact hK _ _ (Gw.refl _) rfl
            · cases ho
              refine .inr ⟨rfl, fun K hK => ?_⟩
              have e6 : (mkR U v).tmps[109]?.getD undef = .bool false := hdep ⟨6, .data⟩ (by simp) rfl
              have e12 : (mkR U v).tmps[115]?.getD undef = .bool false := hdep ⟨12, .data⟩ (by simp) rfl
              refine op_val (v := .bool false) (w' := w) (by go_simp) ?_
              exact hK _ _ (Gw.refl _) rfl
            · cases ho
              refine .inr ⟨rfl, fun K hK => ?_⟩
              have e13 : (mkR U v).tmps[116]?.getD undef = .bool false := hdep ⟨13, .data⟩ (by simp) rfl
              refine op_val (v := .bool false) (w' := w) (by go_simp) ?_
              exact hK _ _ (Gw.refl _) rfl
            · cases ho
              have hw : v 14 = .bool false := hdep ⟨14, .guard⟩ (by simp) rfl
              refine .inr ⟨(wanted_of (d := 117) (c := false) rfl rfl (congrArg some hw)).trans rfl, fun K hK => ?_⟩
              have s10 : (mkR U v).tmps[10]?.getD undef = .int .i64 wv := hU10
              refine op_val (v := .int .i64 wv) (w' := w) (by go_simp) ?_
              exact hK _ _ (Gw.refl _) rfl
            · cases ho
              have hw : v 14 = .bool false := hdep ⟨14, .guard⟩ (by simp) rfl
              refine .inr ⟨(wanted_of (d := 117) (c := false) rfl rfl (congrArg some hw)).trans rfl, fun K hK => ?_⟩
              have e15 : (mkR U v).tmps[118]?.getD undef = .int .i64 wv := hdep ⟨15, .data⟩ (by simp) rfl
              have f0 := HB0.out
              refine op_val (v := .bool b0) (w' := w) (by go_simp) ?_
              exact hK _ _ (Gw.refl _) rfl
            · cases ho
              have hw : v 14 = .bool false := hdep ⟨14, .guard⟩ (by simp) rfl
              refine .inr ⟨(wanted_of (d := 117) (c := false) rfl rfl (congrArg some hw)).trans rfl, fun K hK => ?_⟩
              have s5 : (mkR U v).tmps[5]?.getD undef = .slice (some ⟨ga, 0, none⟩) 12 12 := hU5
              refine op_val (v := .slice (some ⟨ga, 0, none⟩) 12 12) (w' := w) (by go_simp) ?_
              exact hK _ _ (Gw.refl _) rfl
            · cases ho
              have hw : v 14 = .bool false := hdep ⟨14, .guard⟩ (by simp) rfl
              refine .inr ⟨(wanted_of (d := 117) (c := false) rfl rfl (congrArg some hw)).trans rfl, fun K hK => ?_⟩
              have s8 : (mkR U v).tmps[8]?.getD undef = .int .i64 (k : Int) := hU8
              refine op_val (v := .int .i64 (k : Int)) (w' := w) (by go_simp) ?_
              exact hK _ _ (Gw.refl _) rfl
            · cases ho
              have hw : v 14 = .bool false := hdep ⟨14, .guard⟩ (by simp) rfl
              refine .inr ⟨(wanted_of (d := 117) (c := false) rfl rfl (congrArg some hw)).trans rfl, fun K hK => ?_⟩
              have e17 : (mkR U v).tmps[120]?.getD undef = .slice (some ⟨ga, 0, none⟩) 12 12 := hdep ⟨17, .data⟩ (by simp) rfl
              have e18 : (mkR U v).tmps[121]?.getD undef = .int .i64 (k : Int) := hdep ⟨18, .data⟩ (by simp) rfl
              refine op_val (v := .pointer (some ⟨ga, k * 2, none⟩)) (w' := w) (by go_simp) ?_
              exact hK _ _ (Gw.refl _) rfl
            · cases ho
              have hw : v 14 = .bool false := hdep ⟨14, .guard⟩ (by simp) rfl
              refine .inr ⟨(wanted_of (d := 117) (c := false) rfl rfl (congrArg some hw)).trans rfl, fun K hK => ?_⟩
              have e19 : (mkR U v).tmps[122]?.getD undef = .pointer (some ⟨ga, k * 2, none⟩) := hdep ⟨19, .data⟩ (by simp) rfl
              have f0 := hG.cell d0'
              have f1 := hG.cell d1'
              refine op_val (v := .agg #[.slice A L.length ca, .slice B N.length cb]) (w' := w) (by go_simp) ?_
              exact hK _ _ (Gw.refl _) rfl
            · cases ho
              have hw : v 14 = .bool false := hdep ⟨14, .guard⟩ (by simp) rfl
              refine .inr ⟨(wanted_of (d := 117) (c := false) rfl rfl (congrArg some hw)).trans rfl, fun K hK => ?_⟩
              have e20 : (mkR U v).tmps[123]?.getD undef = .agg #[.slice A L.length ca, .slice B N.length cb] := hdep ⟨20, .data⟩ (by simp) rfl
              refine op_enter (f := 13) (args := #[.agg #[.slice A L.length ca, .slice B N.length cb]]) (by go_simp) ?_
              refine (h (HPO2.out.gw hG)).mono ?_
              rintro e w9 ⟨k9, f9, v9, hs9, rfl, I9, R9⟩
              obtain ⟨_, _, rfl⟩ := Is.det I9 HIS.out
              obtain ⟨A9, c9, rfl, _⟩ := R9.nums
              exact hK _ _ R9.gw ⟨A9, c9, rfl⟩
            · cases ho
              have hw : v 14 = .bool false := hdep ⟨14, .guard⟩ (by simp) rfl
              refine .inr ⟨(wanted_of (d := 117) (c := false) rfl rfl (congrArg some hw)).trans rfl, fun K hK => ?_⟩
              obtain ⟨A9, c9, e9⟩ : ∃ A c, v 21 = .slice A hr.length c := hdep ⟨21, .data⟩ (by simp) rfl
              have e21 : (mkR U v).tmps[124]?.getD undef = .slice A9 hr.length c9 := e9
              refine op_val (v := .int .i64 (hr.length : Int)) (w' := w) (by go_simp) ?_
              exact hK _ _ (Gw.refl _) rfl
            · cases ho
              have hw : v 14 = .bool false := hdep ⟨14, .guard⟩ (by simp) rfl
              refine .inr ⟨(wanted_of (d := 117) (c := false) rfl rfl (congrArg some hw)).trans rfl, fun K hK => ?_⟩
              have s5 : (mkR U v).tmps[5]?.getD undef = .slice (some ⟨ga, 0, none⟩) 12 12 := hU5
              refine op_val (v := .slice (some ⟨ga, 0, none⟩) 12 12) (w' := w) (by go_simp) ?_
              exact hK _ _ (Gw.refl _) rfl
            · cases ho
              have hw : v 14 = .bool false := hdep ⟨14, .guard⟩ (by simp) rfl
              refine .inr ⟨(wanted_of (d := 117) (c := false) rfl rfl (congrArg some hw)).trans rfl, fun K hK => ?_⟩
              have s8 : (mkR U v).tmps[8]?.getD undef = .int .i64 (k : Int) := hU8
              refine op_val (v := .int .i64 (k : Int)) (w' := w) (by go_simp) ?_
              exact hK _ _ (Gw.refl _) rfl
            · cases ho
              have hw : v 14 = .bool false := hdep ⟨14, .guard⟩ (by simp) rfl
              refine .inr ⟨(wanted_of (d := 117) (c := false) rfl rfl (congrArg some hw)).trans rfl, fun K hK => ?_⟩
              have e23 : (mkR U v).tmps[126]?.getD undef = .slice (some ⟨ga, 0, none⟩) 12 12 := hdep ⟨23, .data⟩ (by simp) rfl
              have e24 : (mkR U v).tmps[127]?.getD undef = .int .i64 (k : Int) := hdep ⟨24, .data⟩ (by simp) rfl
              refine op_val (v := .pointer (some ⟨ga, k * 2, none⟩)) (w' := w) (by go_simp) ?_
              exact hK _ _ (Gw.refl _) rfl
            · cases ho
              have hw : v 14 = .bool false := hdep ⟨14, .guard⟩ (by simp) rfl
              refine .inr ⟨(wanted_of (d := 117) (c := false) rfl rfl (congrArg some hw)).trans rfl, fun K hK => ?_⟩
              have e25 : (mkR U v).tmps[128]?.getD undef = .pointer (some ⟨ga, k * 2, none⟩) := hdep ⟨25, .data⟩ (by simp) rfl
              refine op_val (v := .pointer (some ⟨ga, k * 2, none⟩)) (w' := w) (by go_simp) ?_
              exact hK _ _ (Gw.refl _) rfl
            · cases ho
              have hw : v 14 = .bool false := hdep ⟨14, .guard⟩ (by simp) rfl
              refine .inr ⟨(wanted_of (d := 117) (c := false) rfl rfl (congrArg some hw)).trans rfl, fun K hK => ?_⟩
              have e26 : (mkR U v).tmps[129]?.getD undef = .pointer (some ⟨ga, k * 2, none⟩) := hdep ⟨26, .data⟩ (by simp) rfl
              have f0 := hG.cell d0'
              refine op_val (v := .slice A L.length ca) (w' := w) (by go_simp) ?_
              exact hK _ _ (Gw.refl _) rfl
            · cases ho
              have hw : v 14 = .bool false := hdep ⟨14, .guard⟩ (by simp) rfl
              refine .inr ⟨(wanted_of (d := 117) (c := false) rfl rfl (congrArg some hw)).trans rfl, fun K hK => ?_⟩
              have e27 : (mkR U v).tmps[130]?.getD undef = .slice A L.length ca := hdep ⟨27, .data⟩ (by simp) rfl
              refine op_val (v := .int .i64 (L.length : Int)) (w' := w) (by go_simp) ?_
              exact hK _ _ (Gw.refl _) rfl
            · cases ho
              have hw : v 14 = .bool false := hdep ⟨14, .guard⟩ (by simp) rfl
              refine .inr ⟨(wanted_of (d := 117) (c := false) rfl rfl (congrArg some hw)).trans rfl, fun K hK => ?_⟩
              have e22 : (mkR U v).tmps[125]?.getD undef = .int .i64 (hr.length : Int) := hdep ⟨22, .data⟩ (by simp) rfl
              have e28 : (mkR U v).tmps[131]?.getD undef = .int .i64 (L.length : Int) := hdep ⟨28, .data⟩ (by simp) rfl
              have f0 := HB1.out
              have f1 : ((hr.length : Int) == (L.length : Int)) = b1 := by rw [← HB1.out, Bool.eq_iff_iff, beq_iff_eq, beq_iff_eq]; omega
              refine op_val (v := .bool b1) (w' := w) (by go_simp) ?_
              exact hK _ _ (Gw.refl _) rfl
            · cases ho
              have hw : v 14 = .bool false := hdep ⟨14, .guard⟩ (by simp) rfl
              refine .inr ⟨(wanted_of (d := 117) (c := false) rfl rfl (congrArg some hw)).trans rfl, fun K hK => ?_⟩
              have e29 : (mkR U v).tmps[132]?.getD undef = .bool b1 := hdep ⟨29, .data⟩ (by simp) rfl
              refine op_val (v := .bool b1) (w' := w) (by go_simp) ?_
              exact hK _ _ (Gw.refl _) rfl
            · cases ho
              have hw : v 30 = .bool b1 := hdep ⟨30, .guard⟩ (by simp) rfl
              by_cases hbt : b1 = true
              · refine .inr ⟨(wanted_of (d := 133) (c := b1) rfl rfl (congrArg some hw)).trans (by rw [hbt]; rfl), fun K hK => ?_⟩
                have s5 : (mkR U v).tmps[5]?.getD undef = .slice (some ⟨ga, 0, none⟩) 12 12 := hU5
                refine op_val (v := .slice (some ⟨ga, 0, none⟩) 12 12) (w' := w) (by go_simp) ?_
                exact hK _ _ (Gw.refl _) (if_pos hbt).symm
              · exact .inl ⟨(wanted_of (d := 133) (c := b1) rfl rfl (congrArg some hw)).trans (by cases b1 <;> simp_all), (if_neg hbt).symm⟩
            · cases ho
              have hw : v 30 = .bool b1 := hdep ⟨30, .guard⟩ (by simp) rfl
              by_cases hbt : b1 = true
              · refine .inr ⟨(wanted_of (d := 133) (c := b1) rfl rfl (congrArg some hw)).trans (by rw [hbt]; rfl), fun K hK => ?_⟩
                have s8 : (mkR U v).tmps[8]?.getD undef = .int .i64 (k : Int) := hU8
                refine op_val (v := .int .i64 (k : Int)) (w' := w) (by go_simp) ?_
                exact hK _ _ (Gw.refl _) (if_pos hbt).symm
              · exact .inl ⟨(wanted_of (d := 133) (c := b1) rfl rfl (congrArg some hw)).trans (by cases b1 <;> simp_all), (if_neg hbt).symm⟩
            · cases ho
              have hw : v 30 = .bool b1 := hdep ⟨30, .guard⟩ (by simp) rfl
              by_cases hbt : b1 = true
              · refine .inr ⟨(wanted_of (d := 133) (c := b1) rfl rfl (congrArg some hw)).trans (by rw [hbt]; rfl), fun K hK => ?_⟩
                have e31 : (mkR U v).tmps[134]?.getD undef = .slice (some ⟨ga, 0, none⟩) 12 12 := (show v 31 = _ from hdep ⟨31, .data⟩ (by simp) rfl).trans (if_pos hbt)
                have e32 : (mkR U v).tmps[135]?.getD undef = .int .i64 (k : Int) := (show v 32 = _ from hdep ⟨32, .data⟩ (by simp) rfl).trans (if_pos hbt)
                refine op_val (v := .pointer (some ⟨ga, k * 2, none⟩)) (w' := w) (by go_simp) ?_
                exact hK _ _ (Gw.refl _) (if_pos hbt).symm
              · exact .inl ⟨(wanted_of (d := 133) (c := b1) rfl rfl (congrArg some hw)).trans (by cases b1 <;> simp_all), (if_neg hbt).symm⟩
            · cases ho
              have hw : v 30 = .bool b1 := hdep ⟨30, .guard⟩ (by simp) rfl
              by_cases hbt : b1 = true
              · refine .inr ⟨(wanted_of (d := 133) (c := b1) rfl rfl (congrArg some hw)).trans (by rw [hbt]; rfl), fun K hK => ?_⟩
                have e33 : (mkR U v).tmps[136]?.getD undef = .pointer (some ⟨ga, k * 2, none⟩) := (show v 33 = _ from hdep ⟨33, .data⟩ (by simp) rfl).trans (if_pos hbt)
                refine op_val (v := .pointer (some ⟨ga, k * 2, none⟩)) (w' := w) (by go_simp) ?_
                exact hK _ _ (Gw.refl _) (if_pos hbt).symm
              · exact .inl ⟨(wanted_of (d := 133) (c := b1) rfl rfl (congrArg some hw)).trans (by cases b1 <;> simp_all), (if_neg hbt).symm⟩
            · cases ho
              have hw : v 30 = .bool b1 := hdep ⟨30, .guard⟩ (by simp) rfl
              by_cases hbt : b1 = true
              · refine .inr ⟨(wanted_of (d := 133) (c := b1) rfl rfl (congrArg some hw)).trans (by rw [hbt]; rfl), fun K hK => ?_⟩
                have e34 : (mkR U v).tmps[137]?.getD undef = .pointer (some ⟨ga, k * 2, none⟩) := (show v 34 = _ from hdep ⟨34, .data⟩ (by simp) rfl).trans (if_pos hbt)
                have f0 := hG.cell d0'
                refine op_val (v := .slice A L.length ca) (w' := w) (by go_simp) ?_
                exact hK _ _ (Gw.refl _) (if_pos hbt).symm
              · exact .inl ⟨(wanted_of (d := 133) (c := b1) rfl rfl (congrArg some hw)).trans (by cases b1 <;> simp_all), (if_neg hbt).symm⟩
            · cases ho
              have hw : v 30 = .bool b1 := hdep ⟨30, .guard⟩ (by simp) rfl
              by_cases hbt : b1 = true
              · refine .inr ⟨(wanted_of (d := 133) (c := b1) rfl rfl (congrArg some hw)).trans (by rw [hbt]; rfl), fun K hK => ?_⟩
                have e35 : (mkR U v).tmps[138]?.getD undef = .slice A L.length ca := (show v 35 = _ from hdep ⟨35, .data⟩ (by simp) rfl).trans (if_pos hbt)
                refine op_val (v := .int .i64 (L.length : Int)) (w' := w) (by go_simp) ?_
                exact hK _ _ (Gw.refl _) (if_pos hbt).symm
              · exact .inl ⟨(wanted_of (d := 133) (c := b1) rfl rfl (congrArg some hw)).trans (by cases b1 <;> simp_all), (if_neg hbt).symm⟩
            · cases ho
              have hw : v 30 = .bool b1 := hdep ⟨30, .guard⟩ (by simp) rfl
              by_cases hbt : b1 = true
              · refine .inr ⟨(wanted_of (d := 133) (c := b1) rfl rfl (congrArg some hw)).trans (by rw [hbt]; rfl), fun K hK => ?_⟩
                have e36 : (mkR U v).tmps[139]?.getD undef = .int .i64 (L.length : Int) := (show v 36 = _ from hdep ⟨36, .data⟩ (by simp) rfl).trans (if_pos hbt)
                have f0 := HB2.out
                have f1 : decide ((0 : Int) < (L.length : Int)) = b2 := by rw [← HB2.out]; exact decide_eq_decide.2 (by omega)
                refine op_val (v := .bool b2) (w' := w) (by go_simp) ?_
                exact hK _ _ (Gw.refl _) (if_pos hbt).symm
              · exact .inl ⟨(wanted_of (d := 133) (c := b1) rfl rfl (congrArg some hw)).trans (by cases b1 <;> simp_all), (if_neg hbt).symm⟩
            · cases ho
              have hw : v 14 = .bool false := hdep ⟨14, .guard⟩ (by simp) rfl
              refine .inr ⟨(wanted_of (d := 117) (c := false) rfl rfl (congrArg some hw)).trans rfl, fun K hK => ?_⟩
              have e30 : (mkR U v).tmps[133]?.getD undef = .bool b1 := hdep ⟨30, .data⟩ (by simp) rfl
              have e37 : (mkR U v).tmps[140]?.getD undef = (if b1 = true then .bool b2 else undef) := hdep ⟨37, .data⟩ (by simp) rfl
              refine op_val (v := .bool (b1 && b2)) (w' := w) (by cases b1 <;> go_simp) ?_
              exact hK _ _ (Gw.refl _) rfl
            · cases ho
              have hw : v 14 = .bool false := hdep ⟨14, .guard⟩ (by simp) rfl
              refine .inr ⟨(wanted_of (d := 117) (c := false) rfl rfl (congrArg some hw)).trans rfl, fun K hK => ?_⟩
              have e16 : (mkR U v).tmps[119]?.getD undef = .bool b0 := hdep ⟨16, .data⟩ (by simp) rfl
              have e38 : (mkR U v).tmps[141]?.getD undef = .bool (b1 && b2) := hdep ⟨38, .data⟩ (by simp) rfl
              have hb := HB.out
              refine op_val (v := .bool false) (w' := w) (by rw [hb] at e16; go_simp) ?_
              exact hK _ _ (Gw.refl _) rfl
            · cases ho
              refine .inr ⟨rfl, fun K hK => ?_⟩
              have e14 : (mkR U v).tmps[117]?.getD undef = .bool false := hdep ⟨14, .data⟩ (by simp) rfl
              have e39 : (mkR U v).tmps[142]?.getD undef = .bool false := hdep ⟨39, .data⟩ (by simp) rfl
              refine op_val (v := .bool false) (w' := w) (by go_simp) ?_
              exact hK _ _ (Gw.refl _) rfl
          · intro v w hG hall
            have h40 : v 40 = .bool false := hall 40 (by decide)
            have hG := Lib.hid hG
            have hU := HU.out
            clear hall HU hU5 hU6 hU7 hU8 hU9 hU10
            subst hU
            dsimp only [mkR]
            rw [h40]
            go_wp2_with fail
            go_meet
            exact ⟨rfl, hG.out⟩
        case rest =>
          obtain ⟨rfl, HGX⟩ := hcut
          go_wp2
          go_roundw
          case rel => exact ⟨k + 1, by omega, by go_num, G5.out.trans HGX.out⟩
          case measure => simp [intOf]; omega
      · obtain rfl : k = 12 := by omega
        have Hp4 := Lib.hid (Hp3.out.on G.out)
        have Hq4 := Lib.hid (Hq3.out.on G.out)
        have HC4 := Lib.hid (HC3.out.on G.out)
        have HG4 := Lib.hid (HG3.out.trans G.out)
        obtain ⟨A, ca, B, cb, q1, q2, hpok⟩ := HPP3.out 11 (by decide)
        have HPO := Lib.hid (hpok.gw G.out)
        have d0 : wr.cell? ⟨ga, 22, none⟩ = some (.slice A 5 ca) := (HC4.out.cell 22).trans q1
        have d1 : wr.cell? ⟨ga, 23, none⟩ = some (.slice B 1 cb) := (HC4.out.cell 23).trans q2
        clear hpok q1 q2 HPP3 HC3 Hp3 Hq3 HG3 HAT HWA hlt hk HC4
        obtain ⟨i0, hi1, hi2, hi3, hi4⟩ := info_inst
        have HI := Lib.hid (show _ ∧ _ ∧ _ ∧ _ from ⟨hi1, hi2, hi3, hi4⟩)
        clear hi1 hi2 hi3 hi4
        have PV0 := Lib.hid (PV.start (Gw.refl wr))
        obtain ⟨wl, hwl⟩ : ∃ x, x = wr := ⟨_, rfl⟩
        subst hwl
        go_upto_region 14 with fail
        generalize hz12 : ((12 : Nat) : Int) = z12
        clear hz12
        go_upto_region 15 with fail
        generalize wl.alloc (.cells #[.slice none 0 0, .slice none 0 0] 25) = wm at *
        generalize wl.heap.size = pv at *
        go_wp2
        go_loopw [12] (fun i wx => ∃ (j : Nat) (u : Value), j ≤ 16 ∧ i = .int .i64 j ∧ Hid (PV wl wx pv u (List.replicate j (1, 0)))) (fun i _ => 16 - (intOf i).toNat)
        case atStart => exact ⟨0, _, by omega, rfl, PV0.out⟩
        case round =>
          obtain ⟨j, u, hj, rfl, HP⟩ := hrel
          clear PV0
          by_cases hlt : j < 16
          · have c0 : wr.cell? ⟨pv, 0, none⟩ = some u := HP.out.var.cell 0
            have cp := two_cells (Hp4.out.on HP.out.gw)
            have cp0 := cp.1
            have cp1 := cp.2.1
            have HLT := Lib.hid HP.out.lt
            have HRL := Lib.hid (show (List.replicate j ((1 : Int), (0 : Int))).length = j by simp)
            have HROW : Hid (wr.ownsRow (pv + 1) 38 2 u j (iCells (List.replicate j (1, 0)))) := by have := HP.out.row; rw [HRL.out] at this; exact this
            clear cp
            have c0a := (Gw.alloc wr (.cells #[.int .i64 1, .int .i64 0] 38)).cell c0
            go_wp2_with (at_builtin; refine wpList_append_lies _ rfl _ _ _ rfl (pv + 1) 38 i0 _ 2 16 Try.underlying22 HI.out.1 HI.out.2.1 HI.out.2.2.1 HI.out.2.2.2 rfl (by omega) u j (iCells (List.replicate j (1, 0))) rfl (HROW.out.alloc _) ⟨_, 0, none⟩ 1 1 [.int .i64 1, .int .i64 0] rfl rfl (World.news_of_block (cs := #[.int .i64 1, .int .i64 0]) (t := 38) (fr := (0, 0)) (heap_alloc_new _ _)) (by simp [Value.oneCell']) (by omega) (by unfold maxLen; omega) (by omega) (by have := HLT.out; simp; omega) _ rfl ?_; intro g1 c1 wp hown1 hg1 hat1 hlt1; have hv1 := HP.out.var_at hg1; have cv := hv1.cell 0; have cz := hv1.free 0)
            have PN : Hid (PV wl (wp.setCell ⟨pv, 0, none⟩ (.slice (some ⟨g1, 0, none⟩) (j + 1) c1)) pv (.slice (some ⟨g1, 0, none⟩) (j + 1) c1) (List.replicate (j + 1) (1, 0))) := by
              have := HP.out.add (M := [(1, 0)]) (by rw [HRL.out]; rfl) hown1 hg1
              rw [← List.replicate_succ'] at this
              exact this
            clear hown1 hg1 hat1 hlt1 hv1 cv cz
            go_roundw
            case rel => exact ⟨j + 1, _, by omega, by go_num, PN.out⟩
            case measure => simp [intOf]; omega
          · obtain rfl : j = 16 := by omega
            clear hlt hj
            go_upto_region 19 with fail
            generalize hz16 : ((16 : Nat) : Int) = z16
            clear hz16
            have Hp5 := Lib.hid (Hp4.out.on HP.out.gw)
            have Hq5 := Lib.hid (Hq4.out.on HP.out.gw)
            have GB := Lib.hid HP.out.gw
            obtain ⟨wB, hwB⟩ : ∃ x, x = wr := ⟨_, rfl⟩
            subst hwB
            have cm0 : wB.cell? ⟨pv, 0, none⟩ = some u := HP.out.var.cell 0
            have hrow : wB.ownsRow (pv + 1) 38 2 u 16 (iCells (List.replicate 16 (1, 0))) := HP.out.row
            rcases id hrow.2 with ⟨_, h9⟩ | ⟨gm, cm, cur, rfl, _⟩
            · cases h9
            have HMC : Hid (∀ (j : Nat) (x : Value), (iCells (List.replicate 16 ((1 : Int), (0 : Int))))[j]? = some x → wB.cell? ⟨gm, j, none⟩ = some x) := fun j x hj => by
              rw [World.ownsRow.cellAt hrow j (by have := (List.getElem?_eq_some_iff.1 hj).1; rw [iCells_len] at this; simpa using this)]
              exact hj
            clear hrow HP
            go_cut [13, 14] (fun a b wx => a = .int .i64 0 ∧ b = .int .i64 0 ∧ Hid (Gw wB wx))
            case first =>
              show (Code.region 19 _ true).wp _ _ (mkM19 (fun i => ([u0, xFn, .pointer (some ⟨p, 0, none⟩), .pointer (some ⟨q, 0, none⟩), .pointer (some ⟨o, 0, none⟩), .slice (some ⟨ga, 0, none⟩) 12 12, .slice (some ⟨ba, 0, none⟩) 12 12, .slice (some ⟨bw, 0, none⟩) 12 12, .int .i64 z12, u9, u10, .pointer (some ⟨pv, 0, none⟩), .int .i64 z16, undef, undef, undef, undef, u17, u18, u19, u20, u21, u22, u23, u24, u25, u26, u27, u28, u29, u30, u31, u32, u33, u34, u35, u36, u37, u38, u39, u40, u41, u42, u43, u44, u45, u46, u47, u48, u49, u50, u51, u52, u53, u54, u55, u56, u57, u58, u59, u60, u61, u62, u63, u64, u65, u66, u67, u68, u69, u70, u71, u72, u73, u74, u75, u76, u77, u78, u79, u80, u81, u82, u83, u84, u85, u86, .slice (some ⟨ba, 0, none⟩) 12 12, .slice (some ⟨bw, 0, none⟩) 12 12, .int .i64 z12, .slice (some ⟨ga, 0, none⟩) 12 12, .int .i64 12, .bool false, u93, u94, u95, u96, u97, u98, u99, u100, u101, u102, u103, u104, u105, u106, u107, u108, u109, u110, u111, u112, u113, u114, u115, u116, u117, u118, u119, u120, u121, u122, u123, u124, u125, u126, u127, u128, u129, u130, u131, u132, u133, u134, u135, u136, u137, u138, u139, u140, u141, u142, u143, .agg #[.slice none 0 0, .slice none 0 0], .int .i64 z16, .bool false, u147, u148, u149, u150, u151, u152, u153, u154, u155, u156, u157, u158, u159, u160, u161, u162, u163, u164, u165, u166, u167, u168, u169, u170, u171, u172, u173, u174, u175, u176, u177, u178, u179, u180, u181, u182, u183, u184, u185, u186, u187, u188, u189, u190, u191, u192, u193, u194, u195, u196, u197] : List Value).getD i undef) (fun j => ([u156, u157, u158, u159, u160, u161, u162, u163, u164, u155, u165, u166, undef, undef] : List Value).getD j undef)) _
              generalize hU : (fun i => ([u0, xFn, .pointer (some ⟨p, 0, none⟩), .pointer (some ⟨q, 0, none⟩), .pointer (some ⟨o, 0, none⟩), .slice (some ⟨ga, 0, none⟩) 12 12, .slice (some ⟨ba, 0, none⟩) 12 12, .slice (some ⟨bw, 0, none⟩) 12 12, .int .i64 z12, u9, u10, .pointer (some ⟨pv, 0, none⟩), .int .i64 z16, undef, undef, undef, undef, u17, u18, u19, u20, u21, u22, u23, u24, u25, u26, u27, u28, u29, u30, u31, u32, u33, u34, u35, u36, u37, u38, u39, u40, u41, u42, u43, u44, u45, u46, u47, u48, u49, u50, u51, u52, u53, u54, u55, u56, u57, u58, u59, u60, u61, u62, u63, u64, u65, u66, u67, u68, u69, u70, u71, u72, u73, u74, u75, u76, u77, u78, u79, u80, u81, u82, u83, u84, u85, u86, .slice (some ⟨ba, 0, none⟩) 12 12, .slice (some ⟨bw, 0, none⟩) 12 12, .int .i64 z12, .slice (some ⟨ga, 0, none⟩) 12 12, .int .i64 12, .bool false, u93, u94, u95, u96, u97, u98, u99, u100, u101, u102, u103, u104, u105, u106, u107, u108, u109, u110, u111, u112, u113, u114, u115, u116, u117, u118, u119, u120, u121, u122, u123, u124, u125, u126, u127, u128, u129, u130, u131, u132, u133, u134, u135, u136, u137, u138, u139, u140, u141, u142, u143, .agg #[.slice none 0 0, .slice none 0 0], .int .i64 z16, .bool false, u147, u148, u149, u150, u151, u152, u153, u154, u155, u156, u157, u158, u159, u160, u161, u162, u163, u164, u165, u166, u167, u168, u169, u170, u171, u172, u173, u174, u175, u176, u177, u178, u179, u180, u181, u182, u183, u184, u185, u186, u187, u188, u189, u190, u191, u192, u193, u194, u195, u196, u197] : List Value).getD i undef) = U
              have hU2 : U 2 = .pointer (some ⟨p, 0, none⟩) := by rw [← hU]; rfl
              have hU3 : U 3 = .pointer (some ⟨q, 0, none⟩) := by rw [← hU]; rfl
              have hU11 : U 11 = .pointer (some ⟨pv, 0, none⟩) := by rw [← hU]; rfl
              have HU := Lib.hid hU
              clear hU
              refine region_use (mk := mkM19 U) (Ok := fun j v w => SM.ok wB.heap.size ((spM19 pv gm cm).getD j (.val undef)) v w) (n := 14) (c := 6) ?_ (by kernel_rfl) (by decide) ?_ ?_ ?_ (fun j v w w' h g => SM.on h g) ?_ ?_ ?_ ?_ ?_
              · rfl
              · exact ops_guard (by decide +kernel)
              · exact ops_wf (by decide +kernel)
              · intro l hdc hl j hj
                have u3 := hdc 6 _ rfl hl ⟨3, .data⟩ (by simp) rfl
                have u5 := hdc 6 _ rfl hl ⟨5, .data⟩ (by simp) rfl
                have u0 := hdc 3 _ rfl u3 ⟨0, .data⟩ (by simp) rfl
                have u2 := hdc 3 _ rfl u3 ⟨2, .data⟩ (by simp) rfl
                have u1 := hdc 2 _ rfl u2 ⟨1, .data⟩ (by simp) rfl
                have u10 := hdc 5 _ rfl u5 ⟨4, .data⟩ (by simp) rfl
                rcases (by omega : j = 0 ∨ j = 1 ∨ j = 2 ∨ j = 3 ∨ j = 4 ∨ j = 5) with rfl | rfl | rfl | rfl | rfl | rfl <;> assumption
              · intro i o' v x ho
                have hi : i < 14 := (Array.getElem?_eq_some_iff.1 ho).1
                rcases (by omega : i = 0 ∨ i = 1 ∨ i = 2 ∨ i = 3 ∨ i = 4 ∨ i = 5 ∨ i = 6 ∨ i = 7 ∨ i = 8 ∨ i = 9 ∨ i = 10 ∨ i = 11 ∨ i = 12 ∨ i = 13) with rfl | rfl | rfl | rfl | rfl | rfl | rfl | rfl | rfl | rfl | rfl | rfl | rfl | rfl
                all_goals (cases ho; rfl)
              · intro i o' v w ho hic hG hdep K hK
                have hi : i < 14 := (Array.getElem?_eq_some_iff.1 ho).1
                rcases (by omega : i = 0 ∨ i = 1 ∨ i = 2 ∨ i = 3 ∨ i = 4 ∨ i = 5 ∨ i = 6 ∨ i = 7 ∨ i = 8 ∨ i = 9 ∨ i = 10 ∨ i = 11 ∨ i = 12 ∨ i = 13) with rfl | rfl | rfl | rfl | rfl | rfl | rfl | rfl | rfl | rfl | rfl | rfl | rfl | rfl
                · cases ho
                  refine op_val (v := .slice (some ⟨w.heap.size, 0, none⟩) 0 0) (w' := w.alloc (.cells #[] 38)) (by go_simp) ?_
                  exact hK _ _ (Gw.alloc _ _) ⟨_, rfl⟩
                · cases ho
                  have s11 : (mkM19 U v).tmps[11]?.getD undef = .pointer (some ⟨pv, 0, none⟩) := hU11
                  refine op_val (v := .pointer (some ⟨pv, 0, none⟩)) (w' := w) (by go_simp) ?_
                  exact hK _ _ (Gw.refl _) rfl
                · cases ho
                  have e1 : (mkM19 U v).tmps[157]?.getD undef = .pointer (some ⟨pv, 0, none⟩) := hdep ⟨1, .data⟩ (by simp) rfl (by decide)
                  have f0 := hG.cell cm0
                  refine op_val (v := .slice (some ⟨gm, 0, none⟩) 16 cm) (w' := w) (by go_simp) ?_
                  exact hK _ _ (Gw.refl _) rfl
                · cases ho
                  obtain ⟨g0, h0⟩ : ∃ g, v 0 = .slice (some ⟨g, 0, none⟩) 0 0 := hdep ⟨0, .data⟩ (by simp) rfl (by decide)
                  have h2 : v 2 = .slice (some ⟨gm, 0, none⟩) 16 cm := hdep ⟨2, .data⟩ (by simp) rfl (by decide)
                  refine op_append_new (.tmp 156) (.tmp 158) _ rfl 38 i0 _ 2 16 Try.underlying22 HI.out.1 HI.out.2.1 HI.out.2.2.1 HI.out.2.2.2 rfl (by omega) ⟨g0, 0, none⟩ 0 0 [] h0 rfl (fun j u hj => by simp at hj) ⟨gm, 0, none⟩ 16 cm (iCells (List.replicate 16 ((1 : Int), (0 : Int)))) h2 rfl (fun j u hu => by rw [add_eq, Nat.zero_add]; exact hG.cell (HMC.out j u hu)) (by omega) (by unfold maxLen; omega) (by omega) ?_
                  intro v' w' hown hgw
                  exact hK _ _ hgw (own_base hown hG.size)
                · cases ho
                  have s3 : (mkM19 U v).tmps[3]?.getD undef = .pointer (some ⟨q, 0, none⟩) := hU3
                  have c := two_cells (Hq5.out.on hG)
                  have c0 := c.1
                  have c1 := c.2.1
                  refine op_val (v := .agg #[.int .i64 26, .int .i64 0]) (w' := w) (by go_simp) ?_
                  exact hK _ _ (Gw.refl _) rfl
                · cases ho
                  have e4 : (mkM19 U v).tmps[160]?.getD undef = .agg #[.int .i64 26, .int .i64 0] := hdep ⟨4, .data⟩ (by simp) rfl (by decide)
                  refine op_val (v := .slice (some ⟨w.heap.size, 0, none⟩) 1 1) (w' := w.alloc (.cells #[.int .i64 26, .int .i64 0] 38)) (by go_simp) ?_
                  exact hK _ _ (Gw.alloc _ _) ⟨_, rfl, Has.new _ _ _⟩
                · cases ho
                  exact absurd rfl hic
                · cases ho
                  have ho : w.ownsRow wB.heap.size 38 2 (v 6) (List.replicate 16 ((1 : Int), (0 : Int)) ++ [(26, 0)]).length (iCells (List.replicate 16 ((1 : Int), (0 : Int)) ++ [(26, 0)])) := hdep ⟨6, .data⟩ (by simp) rfl (by decide)
                  obtain ⟨A5, c5, h5, l5, m5, I5⟩ := row_inst ho
                  have e6 : (mkM19 U v).tmps[162]?.getD undef = .slice A5 17 c5 := h5
                  refine op_val (v := .agg #[.slice A5 17 c5, .slice none 0 0]) (w' := w) (by go_simp) ?_
                  exact hK _ _ (Gw.refl _) ⟨A5, c5, none, 0, rfl, l5, m5, Nat.le_refl _, by decide, I5, fun i s hs => by simp at hs, fun s hs => (by cases hs), (by decide)⟩
                · cases ho
                  obtain ⟨A5, c5, B5, d5, h5, k5⟩ : PrgV w (v 7) (List.replicate 16 ((1 : Int), (0 : Int)) ++ [(26, 0)]) [] := hdep ⟨7, .data⟩ (by simp) rfl (by decide)
                  have e7 : (mkM19 U v).tmps[163]?.getD undef = .agg #[.slice A5 17 c5, .slice B5 0 d5] := h5
                  refine op_enter (f := 10) (args := #[.agg #[.slice A5 17 c5, .slice B5 0 d5]]) (by go_simp) ?_
                  refine (r k5).mono ?_
                  rintro e w9 ⟨k9, f9, hs9, rfl, I9, G9⟩
                  obtain ⟨hsX, IX⟩ := is16
                  obtain ⟨rfl, rfl, _⟩ := Is.det I9 IX
                  exact hK _ _ G9 rfl
                · cases ho
                  have e8 : (mkM19 U v).tmps[164]?.getD undef = .tuple #[.int .i64 0, .int .i64 0] := hdep ⟨8, .data⟩ (by simp) rfl (by decide)
                  refine op_val (v := .tuple #[.int .i64 0, .int .i64 0]) (w' := w) (by go_simp) ?_
                  exact hK _ _ (Gw.refl _) rfl
                · cases ho
                  have e9 : (mkM19 U v).tmps[155]?.getD undef = .tuple #[.int .i64 0, .int .i64 0] := hdep ⟨9, .data⟩ (by simp) rfl (by decide)
                  refine op_val (v := .int .i64 0) (w' := w) (by go_simp) ?_
                  exact hK _ _ (Gw.refl _) rfl
                · cases ho
                  have e9 : (mkM19 U v).tmps[155]?.getD undef = .tuple #[.int .i64 0, .int .i64 0] := hdep ⟨9, .data⟩ (by simp) rfl (by decide)
                  refine op_val (v := .int .i64 0) (w' := w) (by go_simp) ?_
                  exact hK _ _ (Gw.refl _) rfl
                · cases ho
                  have e10 : (mkM19 U v).tmps[165]?.getD undef = .int .i64 0 := hdep ⟨10, .data⟩ (by simp) rfl (by decide)
                  refine op_val (v := .int .i64 0) (w' := w) (by go_simp) ?_
                  exact hK _ _ (Gw.refl _) rfl
                · cases ho
                  have e11 : (mkM19 U v).tmps[166]?.getD undef = .int .i64 0 := hdep ⟨11, .data⟩ (by simp) rfl (by decide)
                  refine op_val (v := .int .i64 0) (w' := w) (by go_simp) ?_
                  exact hK _ _ (Gw.refl _) rfl
              · intro o' v w ho hG hall K hK
                cases ho
                have h3 : w.ownsRow wB.heap.size 38 2 (v 3) 16 (iCells (List.replicate 16 ((1 : Int), (0 : Int)))) := hall 3 (by decide)
                obtain ⟨g5, h5, k5⟩ : ∃ g, v 5 = .slice (some ⟨g, 0, none⟩) 1 1 ∧ Has w g 38 (iC [(26, 0)]) := hall 5 (by decide)
                refine wp_append_lies w (.tmp 159) (.tmp 161) _ rfl wB.heap.size 38 i0 _ 2 16 Try.underlying22 HI.out.1 HI.out.2.1 HI.out.2.2.1 HI.out.2.2.2 rfl (by omega) (v 3) 16 (iCells (List.replicate 16 ((1 : Int), (0 : Int)))) rfl h3 ⟨g5, 0, none⟩ 1 1 (iCells [(26, 0)]) h5 rfl (fun j u hu => by rw [add_eq, Nat.zero_add, k5.cell, iC_get]; exact hu) (by decide) (by omega) (by unfold maxLen; omega) (by omega) hG.size _ rfl ?_
                intro g9 c9 w9 hown hgr hat hlt9
                refine hK _ _ (hG.grown hgr fun k hk => (h3.lt k hk).1) ?_
                show w9.ownsRow wB.heap.size 38 2 _ (List.replicate 16 ((1 : Int), (0 : Int)) ++ [(26, 0)]).length (iCells (List.replicate 16 ((1 : Int), (0 : Int)) ++ [(26, 0)]))
                rw [iCells_app]
                exact hown
              · intro i o' ho hci l hdc hl
                have hi : i < 14 := (Array.getElem?_eq_some_iff.1 ho).1
                rcases (by omega : i = 7 ∨ i = 8 ∨ i = 9 ∨ i = 10 ∨ i = 11 ∨ i = 12 ∨ i = 13) with rfl | rfl | rfl | rfl | rfl | rfl | rfl
                · cases ho
                  have y6 := hl ⟨6, .data⟩ (by simp) rfl
                  exact y6
                · cases ho
                  have y7 := hl ⟨7, .data⟩ (by simp) rfl
                  have y6 := hdc 7 _ rfl y7 ⟨6, .data⟩ (by simp) rfl
                  exact y6
                · cases ho
                  have y8 := hl ⟨8, .data⟩ (by simp) rfl
                  have y7 := hdc 8 _ rfl y8 ⟨7, .data⟩ (by simp) rfl
                  have y6 := hdc 7 _ rfl y7 ⟨6, .data⟩ (by simp) rfl
                  exact y6
                · cases ho
                  have y9 := hl ⟨9, .data⟩ (by simp) rfl
                  have y8 := hdc 9 _ rfl y9 ⟨8, .data⟩ (by simp) rfl
                  have y7 := hdc 8 _ rfl y8 ⟨7, .data⟩ (by simp) rfl
                  have y6 := hdc 7 _ rfl y7 ⟨6, .data⟩ (by simp) rfl
                  exact y6
                · cases ho
                  have y9 := hl ⟨9, .data⟩ (by simp) rfl
                  have y8 := hdc 9 _ rfl y9 ⟨8, .data⟩ (by simp) rfl
                  have y7 := hdc 8 _ rfl y8 ⟨7, .data⟩ (by simp) rfl
                  have y6 := hdc 7 _ rfl y7 ⟨6, .data⟩ (by simp) rfl
                  exact y6
                · cases ho
                  have y10 := hl ⟨10, .data⟩ (by simp) rfl
                  have y9 := hdc 10 _ rfl y10 ⟨9, .data⟩ (by simp) rfl
                  have y8 := hdc 9 _ rfl y9 ⟨8, .data⟩ (by simp) rfl
                  have y7 := hdc 8 _ rfl y8 ⟨7, .data⟩ (by simp) rfl
                  have y6 := hdc 7 _ rfl y7 ⟨6, .data⟩ (by simp) rfl
                  exact y6
                · cases ho
                  have y11 := hl ⟨11, .data⟩ (by simp) rfl
                  have y9 := hdc 11 _ rfl y11 ⟨9, .data⟩ (by simp) rfl
                  have y8 := hdc 9 _ rfl y9 ⟨8, .data⟩ (by simp) rfl
                  have y7 := hdc 8 _ rfl y8 ⟨7, .data⟩ (by simp) rfl
                  have y6 := hdc 7 _ rfl y7 ⟨6, .data⟩ (by simp) rfl
                  exact y6
              · intro v w hG hall
                have h13 : v 12 = .int .i64 0 := hall 12 (by decide) (by decide)
                have h14 : v 13 = .int .i64 0 := hall 13 (by decide) (by decide)
                have hG := Lib.hid hG
                have hU := HU.out
                clear hall HU hU2 hU3 hU11
                subst hU
                dsimp only [mkM19]
                rw [h13, h14]
                go_wp2_with fail
                go_meet
                exact ⟨rfl, rfl, hG.out⟩
            case rest =>
              obtain ⟨rfl, rfl, HGX⟩ := hcut
              have cm1 := HGX.out.cell cm0
              have HMC1 : Hid (∀ (j : Nat) (x : Value), (iCells (List.replicate 16 ((1 : Int), (0 : Int))))[j]? = some x → wc.cell? ⟨gm, j, none⟩ = some x) := fun j x hj => HGX.out.cell (HMC.out j x hj)
              have Hp6 := Lib.hid (Hp5.out.on HGX.out)
              have Hq6 := Lib.hid (Hq5.out.on HGX.out)
              have GD := Lib.hid (GB.out.trans HGX.out)
              clear cm0 HMC Hp5 Hq5 GB HGX
              obtain ⟨wD, hwD⟩ : ∃ x, x = wc := ⟨_, rfl⟩
              subst hwD
              go_upto_region 20 with fail
              go_cut [15, 16] (fun a b wx => a = .int .i64 16 ∧ b = .int .i64 7 ∧ Hid (Gw wD wx))
              case first =>
                show (Code.region 20 _ true).wp _ _ (mkM20 (fun i => ([u0, xFn, .pointer (some ⟨p, 0, none⟩), .pointer (some ⟨q, 0, none⟩), .pointer (some ⟨o, 0, none⟩), .slice (some ⟨ga, 0, none⟩) 12 12, .slice (some ⟨ba, 0, none⟩) 12 12, .slice (some ⟨bw, 0, none⟩) 12 12, .int .i64 z12, u9, u10, .pointer (some ⟨pv, 0, none⟩), .int .i64 z16, .int .i64 0, .int .i64 0, undef, undef, u17, u18, u19, u20, u21, u22, u23, u24, u25, u26, u27, u28, u29, u30, u31, u32, u33, u34, u35, u36, u37, u38, u39, u40, u41, u42, u43, u44, u45, u46, u47, u48, u49, u50, u51, u52, u53, u54, u55, u56, u57, u58, u59, u60, u61, u62, u63, u64, u65, u66, u67, u68, u69, u70, u71, u72, u73, u74, u75, u76, u77, u78, u79, u80, u81, u82, u83, u84, u85, u86, u87, u88, u89, u90, u91, u92, u93, u94, u95, u96, u97, u98, u99, u100, u101, u102, u103, u104, u105, u106, u107, u108, u109, u110, u111, u112, u113, u114, u115, u116, u117, u118, u119, u120, u121, u122, u123, u124, u125, u126, u127, u128, u129, u130, u131, u132, u133, u134, u135, u136, u137, u138, u139, u140, u141, u142, u143, u144, u145, u146, u147, u148, u149, u150, u151, u152, u153, u154, u155, u156, u157, u158, u159, u160, u161, u162, u163, u164, u165, u166, u167, u168, u169, u170, u171, u172, u173, u174, u175, u176, u177, u178, u179, u180, u181, u182, u183, u184, u185, u186, u187, u188, u189, u190, u191, u192, u193, u194, u195, u196, u197] : List Value).getD i undef) (fun j => ([u168, u169, u170, u171, u172, u173, u174, u175, u176, u177, u167, u178, u179, undef, undef] : List Value).getD j undef)) _
                generalize hU : (fun i => ([u0, xFn, .pointer (some ⟨p, 0, none⟩), .pointer (some ⟨q, 0, none⟩), .pointer (some ⟨o, 0, none⟩), .slice (some ⟨ga, 0, none⟩) 12 12, .slice (some ⟨ba, 0, none⟩) 12 12, .slice (some ⟨bw, 0, none⟩) 12 12, .int .i64 z12, u9, u10, .pointer (some ⟨pv, 0, none⟩), .int .i64 z16, .int .i64 0, .int .i64 0, undef, undef, u17, u18, u19, u20, u21, u22, u23, u24, u25, u26, u27, u28, u29, u30, u31, u32, u33, u34, u35, u36, u37, u38, u39, u40, u41, u42, u43, u44, u45, u46, u47, u48, u49, u50, u51, u52, u53, u54, u55, u56, u57, u58, u59, u60, u61, u62, u63, u64, u65, u66, u67, u68, u69, u70, u71, u72, u73, u74, u75, u76, u77, u78, u79, u80, u81, u82, u83, u84, u85, u86, u87, u88, u89, u90, u91, u92, u93, u94, u95, u96, u97, u98, u99, u100, u101, u102, u103, u104, u105, u106, u107, u108, u109, u110, u111, u112, u113, u114, u115, u116, u117, u118, u119, u120, u121, u122, u123, u124, u125, u126, u127, u128, u129, u130, u131, u132, u133, u134, u135, u136, u137, u138, u139, u140, u141, u142, u143, u144, u145, u146, u147, u148, u149, u150, u151, u152, u153, u154, u155, u156, u157, u158, u159, u160, u161, u162, u163, u164, u165, u166, u167, u168, u169, u170, u171, u172, u173, u174, u175, u176, u177, u178, u179, u180, u181, u182, u183, u184, u185, u186, u187, u188, u189, u190, u191, u192, u193, u194, u195, u196, u197] : List Value).getD i undef) = U
                have hU2 : U 2 = .pointer (some ⟨p, 0, none⟩) := by rw [← hU]; rfl
                have hU3 : U 3 = .pointer (some ⟨q, 0, none⟩) := by rw [← hU]; rfl
                have hU11 : U 11 = .pointer (some ⟨pv, 0, none⟩) := by rw [← hU]; rfl
                have HU := Lib.hid hU
                clear hU
                refine region_use (mk := mkM20 U) (Ok := fun j v w => SM.ok wD.heap.size ((spM20 pv gm cm).getD j (.val undef)) v w) (n := 15) (c := 7) ?_ (by kernel_rfl) (by decide) ?_ ?_ ?_ (fun j v w w' h g => SM.on h g) ?_ ?_ ?_ ?_ ?_
                · rfl
                · exact ops_guard (by decide +kernel)
                · exact ops_wf (by decide +kernel)
                · intro l hdc hl j hj
                  have u3 := hdc 7 _ rfl hl ⟨3, .data⟩ (by simp) rfl
                  have u5 := hdc 7 _ rfl hl ⟨6, .data⟩ (by simp) rfl
                  have u0 := hdc 3 _ rfl u3 ⟨0, .data⟩ (by simp) rfl
                  have u2 := hdc 3 _ rfl u3 ⟨2, .data⟩ (by simp) rfl
                  have u1 := hdc 2 _ rfl u2 ⟨1, .data⟩ (by simp) rfl
                  have u10 := hdc 6 _ rfl u5 ⟨4, .data⟩ (by simp) rfl
                  have u11 := hdc 6 _ rfl u5 ⟨5, .data⟩ (by simp) rfl
                  rcases (by omega : j = 0 ∨ j = 1 ∨ j = 2 ∨ j = 3 ∨ j = 4 ∨ j = 5 ∨ j = 6) with rfl | rfl | rfl | rfl | rfl | rfl | rfl <;> assumption
                · intro i o' v x ho
                  have hi : i < 15 := (Array.getElem?_eq_some_iff.1 ho).1
                  rcases (by omega : i = 0 ∨ i = 1 ∨ i = 2 ∨ i = 3 ∨ i = 4 ∨ i = 5 ∨ i = 6 ∨ i = 7 ∨ i = 8 ∨ i = 9 ∨ i = 10 ∨ i = 11 ∨ i = 12 ∨ i = 13 ∨ i = 14) with rfl | rfl | rfl | rfl | rfl | rfl | rfl | rfl | rfl | rfl | rfl | rfl | rfl | rfl | rfl
                  all_goals (cases ho; rfl)
                · intro i o' v w ho hic hG hdep K hK
                  have hi : i < 15 := (Array.getElem?_eq_some_iff.1 ho).1
                  rcases (by omega : i = 0 ∨ i = 1 ∨ i = 2 ∨ i = 3 ∨ i = 4 ∨ i = 5 ∨ i = 6 ∨ i = 7 ∨ i = 8 ∨ i = 9 ∨ i = 10 ∨ i = 11 ∨ i = 12 ∨ i = 13 ∨ i = 14) with rfl | rfl | rfl | rfl | rfl | rfl | rfl | rfl | rfl | rfl | rfl | rfl | rfl | rfl | rfl
                  · cases ho
                    refine op_val (v := .slice (some ⟨w.heap.size, 0, none⟩) 0 0) (w' := w.alloc (.cells #[] 38)) (by go_simp) ?_
                    exact hK _ _ (Gw.alloc _ _) ⟨_, rfl⟩
                  · cases ho
                    have s11 : (mkM20 U v).tmps[11]?.getD undef = .pointer (some ⟨pv, 0, none⟩) := hU11
                    refine op_val (v := .pointer (some ⟨pv, 0, none⟩)) (w' := w) (by go_simp) ?_
                    exact hK _ _ (Gw.refl _) rfl
                  · cases ho
                    have e1 : (mkM20 U v).tmps[169]?.getD undef = .pointer (some ⟨pv, 0, none⟩) := hdep ⟨1, .data⟩ (by simp) rfl (by decide)
                    have f0 := hG.cell cm1
                    refine op_val (v := .slice (some ⟨gm, 0, none⟩) 16 cm) (w' := w) (by go_simp) ?_
                    exact hK _ _ (Gw.refl _) rfl
                  · cases ho
                    obtain ⟨g0, h0⟩ : ∃ g, v 0 = .slice (some ⟨g, 0, none⟩) 0 0 := hdep ⟨0, .data⟩ (by simp) rfl (by decide)
                    have h2 : v 2 = .slice (some ⟨gm, 0, none⟩) 16 cm := hdep ⟨2, .data⟩ (by simp) rfl (by decide)
                    refine op_append_new (.tmp 168) (.tmp 170) _ rfl 38 i0 _ 2 16 Try.underlying22 HI.out.1 HI.out.2.1 HI.out.2.2.1 HI.out.2.2.2 rfl (by omega) ⟨g0, 0, none⟩ 0 0 [] h0 rfl (fun j u hj => by simp at hj) ⟨gm, 0, none⟩ 16 cm (iCells (List.replicate 16 ((1 : Int), (0 : Int)))) h2 rfl (fun j u hu => by rw [add_eq, Nat.zero_add]; exact hG.cell (HMC1.out j u hu)) (by omega) (by unfold maxLen; omega) (by omega) ?_
                    intro v' w' hown hgw
                    exact hK _ _ hgw (own_base hown hG.size)
                  · cases ho
                    have s2 : (mkM20 U v).tmps[2]?.getD undef = .pointer (some ⟨p, 0, none⟩) := hU2
                    have c := two_cells (Hp6.out.on hG)
                    have c0 := c.1
                    have c1 := c.2.1
                    refine op_val (v := .agg #[.int .i64 1, .int .i64 0]) (w' := w) (by go_simp) ?_
                    exact hK _ _ (Gw.refl _) rfl
                  · cases ho
                    have s3 : (mkM20 U v).tmps[3]?.getD undef = .pointer (some ⟨q, 0, none⟩) := hU3
                    have c := two_cells (Hq6.out.on hG)
                    have c0 := c.1
                    have c1 := c.2.1
                    refine op_val (v := .agg #[.int .i64 26, .int .i64 0]) (w' := w) (by go_simp) ?_
                    exact hK _ _ (Gw.refl _) rfl
                  · cases ho
                    have e4 : (mkM20 U v).tmps[172]?.getD undef = .agg #[.int .i64 1, .int .i64 0] := hdep ⟨4, .data⟩ (by simp) rfl (by decide)
                    have e5 : (mkM20 U v).tmps[173]?.getD undef = .agg #[.int .i64 26, .int .i64 0] := hdep ⟨5, .data⟩ (by simp) rfl (by decide)
                    refine op_val (v := .slice (some ⟨w.heap.size, 0, none⟩) 2 2) (w' := w.alloc (.cells #[.int .i64 1, .int .i64 0, .int .i64 26, .int .i64 0] 38)) (by go_simp) ?_
                    exact hK _ _ (Gw.alloc _ _) ⟨_, rfl, Has.new _ _ _⟩
                  · cases ho
                    exact absurd rfl hic
                  · cases ho
                    have ho : w.ownsRow wD.heap.size 38 2 (v 7) (List.replicate 16 ((1 : Int), (0 : Int)) ++ [(1, 0), (26, 0)]).length (iCells (List.replicate 16 ((1 : Int), (0 : Int)) ++ [(1, 0), (26, 0)])) := hdep ⟨7, .data⟩ (by simp) rfl (by decide)
                    obtain ⟨A5, c5, h5, l5, m5, I5⟩ := row_inst ho
                    have e7 : (mkM20 U v).tmps[175]?.getD undef = .slice A5 18 c5 := h5
                    refine op_val (v := .agg #[.slice A5 18 c5, .slice none 0 0]) (w' := w) (by go_simp) ?_
                    exact hK _ _ (Gw.refl _) ⟨A5, c5, none, 0, rfl, l5, m5, Nat.le_refl _, by decide, I5, fun i s hs => by simp at hs, fun s hs => (by cases hs), (by decide)⟩
                  · cases ho
                    obtain ⟨A5, c5, B5, d5, h5, k5⟩ : PrgV w (v 8) (List.replicate 16 ((1 : Int), (0 : Int)) ++ [(1, 0), (26, 0)]) [] := hdep ⟨8, .data⟩ (by simp) rfl (by decide)
                    have e8 : (mkM20 U v).tmps[176]?.getD undef = .agg #[.slice A5 18 c5, .slice B5 0 d5] := h5
                    refine op_enter (f := 10) (args := #[.agg #[.slice A5 18 c5, .slice B5 0 d5]]) (by go_simp) ?_
                    refine (r k5).mono ?_
                    rintro e w9 ⟨k9, f9, hs9, rfl, I9, G9⟩
                    obtain ⟨rfl, rfl, _⟩ := Is.det I9 is17
                    exact hK _ _ G9 rfl
                  · cases ho
                    have e9 : (mkM20 U v).tmps[177]?.getD undef = .tuple #[.int .i64 16, .int .i64 7] := hdep ⟨9, .data⟩ (by simp) rfl (by decide)
                    refine op_val (v := .tuple #[.int .i64 16, .int .i64 7]) (w' := w) (by go_simp) ?_
                    exact hK _ _ (Gw.refl _) rfl
                  · cases ho
                    have e10 : (mkM20 U v).tmps[167]?.getD undef = .tuple #[.int .i64 16, .int .i64 7] := hdep ⟨10, .data⟩ (by simp) rfl (by decide)
                    refine op_val (v := .int .i64 16) (w' := w) (by go_simp) ?_
                    exact hK _ _ (Gw.refl _) rfl
                  · cases ho
                    have e10 : (mkM20 U v).tmps[167]?.getD undef = .tuple #[.int .i64 16, .int .i64 7] := hdep ⟨10, .data⟩ (by simp) rfl (by decide)
                    refine op_val (v := .int .i64 7) (w' := w) (by go_simp) ?_
                    exact hK _ _ (Gw.refl _) rfl
                  · cases ho
                    have e11 : (mkM20 U v).tmps[178]?.getD undef = .int .i64 16 := hdep ⟨11, .data⟩ (by simp) rfl (by decide)
                    refine op_val (v := .int .i64 16) (w' := w) (by go_simp) ?_
                    exact hK _ _ (Gw.refl _) rfl
                  · cases ho
                    have e12 : (mkM20 U v).tmps[179]?.getD undef = .int .i64 7 := hdep ⟨12, .data⟩ (by simp) rfl (by decide)
                    refine op_val (v := .int .i64 7) (w' := w) (by go_simp) ?_
                    exact hK _ _ (Gw.refl _) rfl
                · intro o' v w ho hG hall K hK
                  cases ho
                  have h3 : w.ownsRow wD.heap.size 38 2 (v 3) 16 (iCells (List.replicate 16 ((1 : Int), (0 : Int)))) := hall 3 (by decide)
                  obtain ⟨g5, h5, k5⟩ : ∃ g, v 6 = .slice (some ⟨g, 0, none⟩) 2 2 ∧ Has w g 38 (iC [(1, 0), (26, 0)]) := hall 6 (by decide)
                  refine wp_append_lies w (.tmp 171) (.tmp 174) _ rfl wD.heap.size 38 i0 _ 2 16 Try.underlying22 HI.out.1 HI.out.2.1 HI.out.2.2.1 HI.out.2.2.2 rfl (by omega) (v 3) 16 (iCells (List.replicate 16 ((1 : Int), (0 : Int)))) rfl h3 ⟨g5, 0, none⟩ 2 2 (iCells [(1, 0), (26, 0)]) h5 rfl (fun j u hu => by rw [add_eq, Nat.zero_add, k5.cell, iC_get]; exact hu) (by decide) (by omega) (by unfold maxLen; omega) (by omega) hG.size _ rfl ?_
                  intro g9 c9 w9 hown hgr hat hlt9
                  refine hK _ _ (hG.grown hgr fun k hk => (h3.lt k hk).1) ?_
                  show w9.ownsRow wD.heap.size 38 2 _ (List.replicate 16 ((1 : Int), (0 : Int)) ++ [(1, 0), (26, 0)]).length (iCells (List.replicate 16 ((1 : Int), (0 : Int)) ++ [(1, 0), (26, 0)]))
                  rw [iCells_app]
                  exact hown
                · intro i o' ho hci l hdc hl
                  have hi : i < 15 := (Array.getElem?_eq_some_iff.1 ho).1
                  rcases (by omega : i = 8 ∨ i = 9 ∨ i = 10 ∨ i = 11 ∨ i = 12 ∨ i = 13 ∨ i = 14) with rfl | rfl | rfl | rfl | rfl | rfl | rfl
                  · cases ho
                    have y7 := hl ⟨7, .data⟩ (by simp) rfl
                    exact y7
                  · cases ho
                    have y8 := hl ⟨8, .data⟩ (by simp) rfl
                    have y7 := hdc 8 _ rfl y8 ⟨7, .data⟩ (by simp) rfl
                    exact y7
                  · cases ho
                    have y9 := hl ⟨9, .data⟩ (by simp) rfl
                    have y8 := hdc 9 _ rfl y9 ⟨8, .data⟩ (by simp) rfl
                    have y7 := hdc 8 _ rfl y8 ⟨7, .data⟩ (by simp) rfl
                    exact y7
                  · cases ho
                    have y10 := hl ⟨10, .data⟩ (by simp) rfl
                    have y9 := hdc 10 _ rfl y10 ⟨9, .data⟩ (by simp) rfl
                    have y8 := hdc 9 _ rfl y9 ⟨8, .data⟩ (by simp) rfl
                    have y7 := hdc 8 _ rfl y8 ⟨7, .data⟩ (by simp) rfl
                    exact y7
                  · cases ho
                    have y10 := hl ⟨10, .data⟩ (by simp) rfl
                    have y9 := hdc 10 _ rfl y10 ⟨9, .data⟩ (by simp) rfl
                    have y8 := hdc 9 _ rfl y9 ⟨8, .data⟩ (by simp) rfl
                    have y7 := hdc 8 _ rfl y8 ⟨7, .data⟩ (by simp) rfl
                    exact y7
                  · cases ho
                    have y11 := hl ⟨11, .data⟩ (by simp) rfl
                    have y10 := hdc 11 _ rfl y11 ⟨10, .data⟩ (by simp) rfl
                    have y9 := hdc 10 _ rfl y10 ⟨9, .data⟩ (by simp) rfl
                    have y8 := hdc 9 _ rfl y9 ⟨8, .data⟩ (by simp) rfl
                    have y7 := hdc 8 _ rfl y8 ⟨7, .data⟩ (by simp) rfl
                    exact y7
                  · cases ho
                    have y12 := hl ⟨12, .data⟩ (by simp) rfl
                    have y10 := hdc 12 _ rfl y12 ⟨10, .data⟩ (by simp) rfl
                    have y9 := hdc 10 _ rfl y10 ⟨9, .data⟩ (by simp) rfl
                    have y8 := hdc 9 _ rfl y9 ⟨8, .data⟩ (by simp) rfl
                    have y7 := hdc 8 _ rfl y8 ⟨7, .data⟩ (by simp) rfl
                    exact y7
                · intro v w hG hall
                  have h13 : v 13 = .int .i64 16 := hall 13 (by decide) (by decide)
                  have h14 : v 14 = .int .i64 7 := hall 14 (by decide) (by decide)
                  have hG := Lib.hid hG
                  have hU := HU.out
                  clear hall HU hU2 hU3 hU11
                  subst hU
                  dsimp only [mkM20]
                  rw [h13, h14]
                  go_wp2_with fail
                  go_meet
                  exact ⟨rfl, rfl, hG.out⟩
              case rest =>
                obtain ⟨rfl, rfl, HGX⟩ := hcut
                have GE := Lib.hid (GD.out.trans HGX.out)
                have e0 := GE.out.cell d0
                have e1 := GE.out.cell d1
                have HPE := Lib.hid (HPO.out.gw GE.out)
                clear cm1 HMC1 Hp6 Hq6 GD HGX d0 d1
                have HA : Calls Try.prog 13 #[.agg #[.slice A 5 ca, .slice B 1 cb]] wc fun e W' => ∃ A9 c9, e = .returned (.slice A9 5 c9) ∧ NumsAt W' A9 [0, -1, -1, 0, 1] ∧ Gw wc W' :=
                  (h HPE.out).mono fun e W' ⟨k, f, v, hs, he, hi, hr⟩ => by
                    obtain ⟨_, _, rfl⟩ := Is.det hi is11
                    obtain ⟨A9, c9, rfl, hn⟩ := hr.nums
                    exact ⟨A9, c9, he, hn, hr.gw⟩
                have NL : ∀ W : World, NumsAt (W.alloc (.cells #[.int .i64 0, .int .i64 (-1), .int .i64 (-1), .int .i64 0, .int .i64 1] 3)) (some ⟨W.heap.size, 0, none⟩) [0, -1, -1, 0, 1] := fun W j a hj => by
                  have hH := Has.new W 3 #[.int .i64 0, .int .i64 (-1), .int .i64 (-1), .int .i64 0, .int .i64 1]
                  have hj5 : j < 5 := (List.getElem?_eq_some_iff.1 hj).1
                  refine ⟨_, 0, rfl, ?_⟩
                  rw [Nat.zero_add, hH.cell]
                  rcases (by omega : j = 0 ∨ j = 1 ∨ j = 2 ∨ j = 3 ∨ j = 4) with rfl | rfl | rfl | rfl | rfl <;> (simp at hj; subst hj; rfl)
                have SS : ∀ {W : World} {A B : Option Addr} {ca cb : Nat}, NumsAt W A [0, -1, -1, 0, 1] → NumsAt W B [0, -1, -1, 0, 1] → Calls Try.prog 12 #[.slice A 5 ca, .slice B 5 cb] W fun e W' => e = .returned (.bool true) ∧ Gw W W' := fun h h' => nsame_any h h' (by decide)
                go_wp2_with (first
                  | (go_at_call 13; with_reducible refine HA.mono ?_; rintro e w3 ⟨A3, c3, rfl, N3, G3⟩)
                  | (go_at_call 12; with_reducible refine (SS (N3.gw (Gw.alloc _ _)) (NL _)).mono ?_; rintro e w4 ⟨rfl, G4⟩))
                go_ret
                exact ⟨by simp, HG4.out.trans (GE.out.trans (G3.trans ((Gw.alloc _ _).trans G4)))⟩
end Go.Proofs.Ythjbjbbbbdhcmaa
