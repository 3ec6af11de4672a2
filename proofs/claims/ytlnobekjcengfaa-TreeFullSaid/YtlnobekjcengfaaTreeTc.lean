/-
  The program's own tree keeps the contract of a tree.
-/
import Derived.Test.YtlnobekjcengfaaTreeTn
namespace Go.Proofs.Ytlnobekjcengfaa
open Go.ChangeShapes Go.WideShapes Go.ChangeAt Go.RowKit Go.Joins
set_option linter.unusedVariables false
set_option linter.unusedSimpArgs false

theorem MkP.kp {g : Nat} {m : Option Nat} {s' : St} {W W' : World} (h : MkP g m s' W W') : Kp TT (mtF g m) (.pointer (some ⟨g, 0, none⟩)) s' W W' := by
  obtain ⟨m', h1, h2⟩ := h.ex
  refine ⟨h.ch, mtF g m', ⟨g, m', rfl, h1, rfl⟩, fun k hk => ?_⟩
  rcases hk with rfl | q
  · exact .inl (.inl rfl)
  · rcases h2 k q with r | r
    · exact .inl (.inr r)
    · exact .inr r
theorem tree_c : ∃ T : TP, TreeC T := by
  refine ⟨TT, ?_⟩
  constructor
  · rintro F W v s k ⟨g, m, rfl, h, rfl⟩ hk
    exact h.lt hk
  · rintro F W W' v s ⟨g, m, rfl, h, rfl⟩ he
    exact ⟨g, m, rfl, h.same he, rfl⟩
  · intro W x es hx hs hl
    exact pnew_any hx hs hl
  · rintro F W v s p ⟨g, m, rfl, h, rfl⟩ ok hl hp
    exact (pfind_any h ok p hp).mono fun e W' ⟨he, G⟩ => ⟨he, (MkP.of_gw h G).kp⟩
  · rintro F W v s p d ⟨g, m, rfl, h, rfl⟩ ok hl hp h0 h1
    exact (pmake_any h ok hl p hp d h0 h1).mono fun e W' ⟨he, k⟩ => ⟨he, k.kp⟩
  · rintro F W v s p d ⟨g, m, rfl, h, rfl⟩ ok hl hp
    exact (pdrop_any h ok hl p hp d).mono fun e W' ⟨he, k⟩ => ⟨he, k.kp⟩
  · rintro F W v s a b ⟨g, m, rfl, h, rfl⟩ ok hl ha hb
    exact (pmove_any h ok hl a b ha hb).mono fun e W' ⟨he, k⟩ => ⟨he, k.kp⟩
  · rintro F W v s p ⟨g, m, rfl, h, rfl⟩ ok hl hp
    exact (pmany_any h ok hl p hp).mono fun e W' ⟨he, G⟩ => ⟨he, (MkP.of_gw h G).kp⟩
  · rintro F W v s ⟨g, m, rfl, h, rfl⟩ ok hl
    exact plen_any h
  · rintro F W v s ⟨g, m, rfl, h, rfl⟩ ok hl
    exact (pcopy_any h).mono fun e W' ⟨g', he, G, hg, m', h1, h2⟩ => ⟨_, mtF g' m', he, G, ⟨g', m', rfl, h1, rfl⟩, fun k hk => by
      rcases hk with rfl | q
      · exact hg
      · exact h2 k q⟩
end Go.Proofs.Ytlnobekjcengfaa
