/-
  May, Split, Deep, Less of package names.
-/
import Derived.Test.YtlnobekjcengfaaNameO
namespace Go.Proofs.Ytlnobekjcengfaa
open Go.ChangeShapes Go.WideShapes Go.ChangeAt Go.RowKit Go.Joins
set_option linter.unusedVariables false

theorem bs_nil (l : List UInt8) : ((bs l).toList == ([] : List UInt8)) = decide (l = []) := by rw [bs_list]; cases l <;> rfl
/-- A name is one whose last part is not empty. -/
theorem name_spl (l : List UInt8) : nameB l = !decide ((spl l).2 = []) := by
  cases h : nameB l with
  | false => rw [spl_no h]; rfl
  | true =>
    rcases name_cases h with ⟨h1, _, h2, _⟩ | ⟨a, b, c, _, _, _, h1, _, h2, _⟩
    · rw [h2, decide_eq_false (part_ne h1)]; rfl
    · rw [h2, decide_eq_false (part_ne h1)]; rfl
theorem name_both (l : List UInt8) : nameB l = !(decide ((spl l).1 = []) && decide ((spl l).2 = [])) := by
  rw [name_spl]
  cases h : nameB l with
  | false => rw [spl_no h]; rfl
  | true => have := h; rw [name_spl] at this; have h2 : decide ((spl l).2 = []) = false := by simpa using this
            rw [h2, Bool.and_false]
/-- A value of a name in its box, whatever else has come. -/
structure NS (W w : World) (g : Nat) (p q : List UInt8) : Prop where
  gw : Gw W w
  c : Has w g 91 #[.string (bs p), .string (bs q)]
theorem NS.on {W w w' : World} {g : Nat} {p q : List UInt8} (h : NS W w g p q) (G : Gw w w') : NS W w' g p q := ⟨h.gw.trans G, h.c.on G⟩
theorem spl_size (l : List UInt8) : (bs (spl l).1).size ≤ 140737488351232 ∧ (bs (spl l).2).size ≤ 140737488351232 := by
  rw [bs_size, bs_size]
  cases h : nameB l with
  | false => rw [spl_no h]; exact ⟨by decide, by decide⟩
  | true =>
    rcases name_cases h with ⟨_, h0, h2, _⟩ | ⟨a, b, c, h1, _, _, _, h0, h2, _⟩
    · rw [h2]; exact ⟨by simp, by simp only; omega⟩
    · rw [h2]
      have : l.length = a.length + b.length + 1 := by rw [h1]; simp; omega
      exact ⟨by simp only; omega, by simp only; omega⟩
theorem ns_new {W w1 : World} {p q : List UInt8} (G1 : Gw W w1) (o : Value) : NS W (w1.alloc (.cells #[.string (bs p), .string (bs q)] 91)) w1.heap.size p q := ⟨G1.trans (Gw.alloc _ _), Has.new _ _ _⟩
theorem split_any : SplitC := by
  intro s W hs
  have F := fun w => of_any s w hs
  obtain ⟨z1, z2⟩ := spl_size s.data.toList
  unfold nV at F
  generalize spl s.data.toList = p at F z1 z2 ⊢
  obtain ⟨p1, p2⟩ := p
  have K1 := fun w => clone_any (bs p1) w z1
  have K2 := fun w => clone_any (bs p2) w z2
  clear z1 z2
  go_enter Try.func40, Try.ntmps40
  go_upto_region 2 with (go_at_call 44; with_reducible refine (F _).mono ?_; rintro e w1 ⟨rfl, G1⟩)
  have N1 : NS W (w1.alloc (.cells #[.string (bs p1), .string (bs p2)] 91)) w1.heap.size p1 p2 := ns_new G1 (.nilIface)
  have hne : Nonempty (InP (fun w => NS W w w1.heap.size p1 p2)) := ⟨⟨_, N1⟩⟩
  have k0 : ∀ n : InP (fun w => NS W w w1.heap.size p1 p2), n.val.cell? ⟨w1.heap.size, 0, none⟩ = some (.string (bs p1)) := fun n => n.ok.c.cell 0
  have k1 : ∀ n : InP (fun w => NS W w w1.heap.size p1 p2), n.val.cell? ⟨w1.heap.size, 1, none⟩ = some (.string (bs p2)) := fun n => n.ok.c.cell 1
  refine region_p (S := fun w => NS W w w1.heap.size p1 p2) (by kernel_rfl) (by kernel_rfl) (N1.on (Gw.refl _).drew) ?_
  repeat (go_big_quiet_step (first | with_reducible exact toG (fun a b h g => NS.on h g) (K1 _) | with_reducible exact toG (fun a b h g => NS.on h g) (K2 _)))
  refine wpQuiet_nil ?_
  intro _ hw'
  obtain ⟨nq, rfl⟩ := hw'
  go_wp2
  go_ret2
  exact ⟨rfl, nq.ok.gw⟩
end Go.Proofs.Ytlnobekjcengfaa
