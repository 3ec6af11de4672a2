/-
  An empty arena; the first sentence of each law of chapter 2.
-/
import Derived.Test.YtgbmiphaabeodaaDoorTermL
import Derived.Test.YtgbmiphaabeodaaDoorRefOnly
namespace Go.Proofs.YtgbmiphaabeodaaDoor
open Go.ChangeShapes Go.WideShapes Go.ChangeAt Go.RowKit
set_option linter.unusedVariables false
attribute [local go_sem ↓] Go.wp_at_zero Go.wp_at_succ

theorem zero_arena (w : World) : (zeroValue 61).run Tryd.prog w = .ok (.agg (arr (.slice none 0 0) (.slice none 0 0) (.map none) (List.replicate 64 0))) w := by kernel_rfl
set_option maxRecDepth 100000 in
theorem new_any (w : World) :
    Calls Tryd.prog 7 #[] w fun e w' => e = .returned (ptr w.heap.size) ∧ Ar w' w.heap.size [] (fun k => k = w.heap.size) ∧ Below w.heap.size w w' := by
  have key : ∀ W : World, W = w.alloc (.cells (arr (.slice none 0 0) (.slice none 0 0) (.map none) (List.replicate 64 0)) 61) → Ar W w.heap.size [] (fun k => k = w.heap.size) ∧ Below w.heap.size w W := by
    rintro W rfl
    refine ⟨⟨_, _, _, _, ⟨by simp, fun id hid => .inl ⟨by rw [List.getElem?_replicate, if_pos hid], (fun i n hi => by simp at hi)⟩⟩, ⟨Has.new w _ _, rfl, (fun k hk => by simp [hk]), ⟨rfl, .inl ⟨rfl, rfl⟩⟩, ⟨rfl, .inl ⟨rfl, rfl⟩⟩, (fun g hg => by cases hg), (fun g hg => by cases hg), .inl ⟨rfl, rfl⟩, WF.nil, (fun i j n hi => by simp at hi), by simp, NormA.nil⟩⟩, (Below.refl _ _).alloc (Nat.le_refl _) _⟩
  have HK := Lib.hid key
  clear key
  have zv := zero_arena
  go_enter Tryd.func7, Tryd.ntmps7
  go_wp2
  go_ret
  exact ⟨rfl, HK.out _ rfl⟩
end Go.Proofs.YtgbmiphaabeodaaDoor
