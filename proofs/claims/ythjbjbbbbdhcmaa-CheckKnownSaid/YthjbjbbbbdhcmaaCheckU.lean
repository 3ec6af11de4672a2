/-
  Same of stage 11's laws: are two rows of whole numbers one?
-/
import Derived.Test.YthjbjbbbbdhcmaaCheckO
namespace Go.Proofs.Ythjbjbbbbdhcmaa
open Go.ChangeShapes Go.WideShapes Go.ChangeAt Go.RowKit Go.Joins
set_option linter.unusedVariables false

/-- Whole numbers, wherever they lie. -/
def NumsAt (w : World) (A : Option Addr) (l : List Int) : Prop := ∀ j a, l[j]? = some a → ∃ g off, A = some ⟨g, off, none⟩ ∧ w.cell? ⟨g, off + j, none⟩ = some (.int .i64 a)
theorem NumsAt.gw {w w' : World} {A : Option Addr} {l : List Int} (h : NumsAt w A l) (g : Gw w w') : NumsAt w' A l := fun j a hj => by
  obtain ⟨b, off, e, hc⟩ := h j a hj
  exact ⟨b, off, e, g.cell hc⟩
theorem NRow.shp {w wr : World} {v : Value} {l : List Int} (h : NRow w wr v l) : ∃ A cap, v = .slice A l.length cap ∧ ∀ j a, l[j]? = some a → ∃ g, A = some ⟨g, 0, none⟩ ∧ wr.cell? ⟨g, j, none⟩ = some (.int .i64 a) := by
  have ho := h.own
  rcases ho.2 with ⟨h0, hx⟩ | ⟨g, cap, cur, h0, _⟩
  · have : l = [] := by simpa [i64s] using hx
    subst this
    exact ⟨none, 0, h0, fun j a ha => by simp at ha⟩
  · subst h0
    refine ⟨some ⟨g, 0, none⟩, cap, rfl, fun j a ha => ⟨g, rfl, ?_⟩⟩
    rw [World.ownsRow.cellAt ho j (by have := (List.getElem?_eq_some_iff.1 ha).1; omega), i64s, List.getElem?_map, ha]
    rfl
theorem NRow.nums {w wr : World} {v : Value} {l : List Int} (h : NRow w wr v l) : ∃ A cap, v = .slice A l.length cap ∧ NumsAt wr A l := by
  obtain ⟨A, cap, e, hc⟩ := h.shp
  exact ⟨A, cap, e, fun j a ha => by
    obtain ⟨g, e, h⟩ := hc j a ha
    exact ⟨g, 0, e, by rw [Nat.zero_add]; exact h⟩⟩
theorem Gw.drewM {a w : World} (h : Gw a w) (n : Nat) : Gw a (w.drewN n) := h.trans (Grown.gw (grown_drewN (Grown.refl w) n))
set_option maxRecDepth 4000 in
set_option maxHeartbeats 4000000 in
theorem nsame_any {W : World} {A B : Option Addr} {l m : List Int} {ca cb : Nat} (h : NumsAt W A l) (h' : NumsAt W B m) (hl : l.length ≤ 9223372036854775807) :
    Calls Try.prog 12 #[.slice A l.length ca, .slice B m.length cb] W fun e W' => e = .returned (.bool (decide (l = m))) ∧ Gw W W' := by
  by_cases hL : l.length = m.length
  · obtain ⟨n, e1, e2⟩ : ∃ n, l.length = n ∧ m.length = n := ⟨_, rfl, hL.symm⟩
    rw [e1, e2]
    rw [e1] at hl
    have H1 := Lib.hid h
    have H2 := Lib.hid h'
    have E1 := Lib.hid e1
    have E2 := Lib.hid e2
    clear h h' hL e1 e2
    go_enter Try.func12, Try.ntmps12
    go_wp2
    go_loopw [5] (fun i wr => ∃ k : Nat, k ≤ n ∧ i = .int .i64 k ∧ Hid (∀ j, j < k → l[j]? = m[j]?) ∧ Hid (Gw W wr)) (fun i _ => n - (intOf i).toNat)
    case atStart => exact ⟨0, by omega, rfl, fun j hj => by omega, Gw.refl _⟩
    case round =>
      obtain ⟨k, hk, rfl, HE, G⟩ := hrel
      by_cases hlt : k < n
      · obtain ⟨x, hx⟩ : ∃ x, l[k]? = some x := ⟨_, List.getElem?_eq_getElem (by rw [E1.out]; exact hlt)⟩
        obtain ⟨x', hx'⟩ : ∃ x, m[k]? = some x := ⟨_, List.getElem?_eq_getElem (by rw [E2.out]; exact hlt)⟩
        obtain ⟨g, off, rfl, hc0⟩ := (H1.out.gw G.out) k _ hx
        obtain ⟨g', off', rfl, hc0'⟩ := (H2.out.gw G.out) k _ hx'
        by_cases hxx : x = x'
        · subst hxx
          have HE2 : Hid (∀ j, j < k + 1 → l[j]? = m[j]?) := fun j hj => by
            by_cases h : j = k
            · subst h; rw [hx, hx']
            · exact HE.out j (by omega)
          clear hx hx' HE
          go_wp2
          go_quiet (fail)
          go_wp2
          go_roundw
          case rel => exact ⟨k + 1, by omega, by go_num, HE2, G.out.drewM _⟩
          case measure => simp [intOf]; omega
        · have HD : Hid (¬ l = m) := fun h => hxx (by rw [h, hx'] at hx; injection hx with hx; exact hx.symm)
          have hne : (x != x') = true := by simp [hxx]
          clear hx hx' HE
          go_wp2
          go_quiet (fail)
          go_wp2
          go_ret
          exact ⟨congrArg (fun b => Ending.returned (Value.bool b)) (decide_eq_false HD.out).symm, G.out.drewM _⟩
      · obtain rfl : k = n := by omega
        have HE2 : Hid (l = m) := list_eq (by rw [E1.out, E2.out]) (fun j hj => HE.out j (by rw [E1.out] at hj; exact hj))
        clear HE
        go_wp2
        go_ret
        exact ⟨congrArg (fun b => Ending.returned (Value.bool b)) (decide_eq_true HE2.out).symm, G.out⟩
  · have HD : Hid (¬ l = m) := fun h => hL (by rw [h])
    have hne : ((l.length : Int) != (m.length : Int)) = true := by simp; omega
    have hne2 : ((l.length : Int) == (m.length : Int)) = false := by simp; omega
    clear h h' hL
    go_enter Try.func12, Try.ntmps12
    go_wp2
    all_goals
      go_ret
      exact ⟨congrArg (fun b => Ending.returned (Value.bool b)) (decide_eq_false HD.out).symm, Gw.refl _⟩
end Go.Proofs.Ythjbjbbbbdhcmaa
