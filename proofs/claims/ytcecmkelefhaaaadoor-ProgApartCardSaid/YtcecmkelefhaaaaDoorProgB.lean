/-
  Same of stage 10's laws: are two programs one?
-/
import Derived.Test.YtcecmkelefhaaaaDoorProgA
namespace Go.Proofs.YtcecmkelefhaaaaDoor
open Go.ChangeShapes Go.WideShapes Go.ChangeAt Go.RowKit Go.Joins
set_option linter.unusedVariables false

theorem list_eq {α : Type} {l l' : List α} (hl : l.length = l'.length) (h : ∀ j, j < l.length → l[j]? = l'[j]?) : l = l' := by
  apply List.ext_getElem?
  intro j
  by_cases hj : j < l.length
  · exact h j hj
  · rw [List.getElem?_eq_none (by omega), List.getElem?_eq_none (by omega)]
theorem grown_drewN {w wr : World} (h : Grown w wr) : ∀ n, Grown w (wr.drewN n)
  | 0 => h
  | n + 1 => grown_drewN h.drew n
theorem bytes_ne {a b : ByteArray} (h : a ≠ b) : (a.toList == b.toList) = false := by
  have : a.toList ≠ b.toList := by
    intro e
    rw [ByteArray.toList_eq, ByteArray.toList_eq] at e
    exact h (bytes_inj e)
  simpa using this
set_option maxRecDepth 4000 in
set_option maxHeartbeats 4000000 in
theorem same_any {W : World} {A B A' B' : Option Addr} {L L' : List (Int × Int)} {N N' : List ByteArray} {ca cb ca' cb' : Nat} (h : POk W A L ca B N cb) (h' : POk W A' L' ca' B' N' cb') :
    Calls Tryd.prog 15 #[.agg #[.slice A L.length ca, .slice B N.length cb], .agg #[.slice A' L'.length ca', .slice B' N'.length cb']] W fun e W' => e = .returned (.bool (decide (L = L' ∧ N = N'))) ∧ Grown W W' := by
  have hl1 : (L.length : Int) ≤ 9223372036854775807 := by have := h.la; have := h.ma; omega
  have hl2 : (N.length : Int) ≤ 9223372036854775807 := by have := h.lb; have := h.mb; omega
  by_cases hL : L.length = L'.length
  · by_cases hN : N.length = N'.length
    · obtain ⟨n, e1, e2⟩ : ∃ n, L.length = n ∧ L'.length = n := ⟨_, rfl, hL.symm⟩
      obtain ⟨m, e3, e4⟩ : ∃ m, N.length = m ∧ N'.length = m := ⟨_, rfl, hN.symm⟩
      rw [e1, e2, e3, e4]
      rw [e1] at hl1
      rw [e3] at hl2
      have HK := Lib.hid ((h.alloc (.cells #[.slice A n ca, .slice B m cb] 25)).alloc (.cells #[.slice A' n ca', .slice B' m cb'] 25))
      have HK' := Lib.hid ((h'.alloc (.cells #[.slice A n ca, .slice B m cb] 25)).alloc (.cells #[.slice A' n ca', .slice B' m cb'] 25))
      have HG := Lib.hid (((Grown.refl W).alloc #[.slice A n ca, .slice B m cb] 25).alloc #[.slice A' n ca', .slice B' m cb'] 25)
      have E1 := Lib.hid e1
      have E2 := Lib.hid e2
      have E3 := Lib.hid e3
      have E4 := Lib.hid e4
      obtain ⟨c0, c1, f0, f1⟩ := two_cells (heap_alloc_new (W.alloc (.cells #[.slice A n ca, .slice B m cb] 25)) (.cells #[.slice A' n ca', .slice B' m cb'] 25))
      obtain ⟨d0, d1, g0, g1⟩ := two_cells (grown_row (((Grown.refl (W.alloc (.cells #[.slice A n ca, .slice B m cb] 25)))).alloc #[.slice A' n ca', .slice B' m cb'] 25) (heap_alloc_new W (.cells #[.slice A n ca, .slice B m cb] 25)))
      have hs : (W.alloc (.cells #[.slice A n ca, .slice B m cb] 25)).heap.size = W.heap.size + 1 := by show (W.heap.push _).size = _; simp
      rw [hs] at c0 c1 f0 f1
      clear h h' hL hN e1 e2 e3 e4 hs f0 f1 g0 g1
      go_enter Tryd.func15, Tryd.ntmps15
      go_wp2
      generalize hW1 : (W.alloc (.cells #[.slice A n ca, .slice B m cb] 25)).alloc (.cells #[.slice A' n ca', .slice B' m cb'] 25) = W1 at *
      go_loopw [5] (fun i wr => ∃ k q : Nat, k ≤ n ∧ i = .int .i64 k ∧ Hid (∀ j, j < k → L[j]? = L'[j]?) ∧ wr = W1.drewN q) (fun i _ => n - (intOf i).toNat)
      case atStart => exact ⟨0, 0, by omega, rfl, fun j hj => by omega, rfl⟩
      case round =>
        obtain ⟨k, q, hk, rfl, HE, rfl⟩ := hrel
        by_cases hlt : k < n
        · obtain ⟨⟨x, y⟩, hx⟩ : ∃ x, L[k]? = some x := ⟨_, List.getElem?_eq_getElem (by rw [E1.out]; exact hlt)⟩
          obtain ⟨⟨x', y'⟩, hx'⟩ : ∃ x, L'[k]? = some x := ⟨_, List.getElem?_eq_getElem (by rw [E2.out]; exact hlt)⟩
          obtain ⟨g, off, rfl, hg, hc0, hc1⟩ := HK.out.inst k _ hx
          obtain ⟨g', off', rfl, hg', hc0', hc1'⟩ := HK'.out.inst k _ hx'
          simp only at hc0 hc1 hc0' hc1'
          by_cases hxx : x = x' ∧ y = y'
          · obtain ⟨rfl, rfl⟩ := hxx
            have HE2 : Hid (∀ j, j < k + 1 → L[j]? = L'[j]?) := fun j hj => by
              by_cases h : j = k
              · subst h; rw [hx, hx']
              · exact HE.out j (by omega)
            clear hx hx' HE
            go_wp2
            go_quiet (fail)
            go_wp2
            refine ⟨⟨k + 1, q + nq, by omega, by go_num, HE2, rfl⟩, ?_⟩
            simp [intOf]
            omega
          · have HD : Hid (¬ (L = L' ∧ N = N')) := fun h => hxx (by rw [h.1, hx'] at hx; injection hx with hx; injection hx with h1 h2; exact ⟨h1.symm, h2.symm⟩)
            clear hx hx' HE
            by_cases hx1 : x = x'
            · subst hx1
              have hy1 : ¬ y = y' := fun e => hxx ⟨rfl, e⟩
              clear hxx
              go_wp2
              go_quiet (fail)
              go_wp2
              go_ret
              exact ⟨congrArg (fun b => Ending.returned (Value.bool b)) (decide_eq_false HD.out).symm, by first | exact grown_drewN HG.out (q + nq) | exact grown_drewN (grown_drewN HG.out q) nq⟩
            · clear hxx
              go_wp2
              go_quiet (fail)
              go_wp2
              go_ret
              exact ⟨congrArg (fun b => Ending.returned (Value.bool b)) (decide_eq_false HD.out).symm, by first | exact grown_drewN HG.out (q + nq) | exact grown_drewN (grown_drewN HG.out q) nq⟩
        · obtain rfl : k = n := by omega
          have HE2 : Hid (L = L') := list_eq (by rw [E1.out, E2.out]) (fun j hj => HE.out j (by rw [E1.out] at hj; exact hj))
          clear HE
          go_wp2
          go_loopw [6] (fun i wr => ∃ l r : Nat, l ≤ m ∧ i = .int .i64 l ∧ Hid (∀ j, j < l → N[j]? = N'[j]?) ∧ wr = W1.drewN r) (fun i _ => m - (intOf i).toNat)
          case atStart => exact ⟨0, q, by omega, rfl, fun j hj => by omega, rfl⟩
          case round =>
            obtain ⟨l, r, hl, rfl, HN, rfl⟩ := hrel
            by_cases hlt : l < m
            · obtain ⟨x, hx⟩ : ∃ x, N[l]? = some x := ⟨_, List.getElem?_eq_getElem (by rw [E3.out]; exact hlt)⟩
              obtain ⟨x', hx'⟩ : ∃ x, N'[l]? = some x := ⟨_, List.getElem?_eq_getElem (by rw [E4.out]; exact hlt)⟩
              obtain ⟨g, off, rfl, hg, hc0⟩ := HK.out.str l _ hx
              obtain ⟨g', off', rfl, hg', hc0'⟩ := HK'.out.str l _ hx'
              by_cases hxx : x = x'
              · subst hxx
                have HN2 : Hid (∀ j, j < l + 1 → N[j]? = N'[j]?) := fun j hj => by
                  by_cases h : j = l
                  · subst h; rw [hx, hx']
                  · exact HN.out j (by omega)
                clear hx hx' HN
                go_wp2
                go_quiet (fail)
                go_wp2
                refine ⟨⟨l + 1, r + nq, by omega, by go_num, HN2, rfl⟩, ?_⟩
                simp [intOf]
                omega
              · have HD : Hid (¬ (L = L' ∧ N = N')) := fun h => hxx (by rw [h.2, hx'] at hx; injection hx with hx; exact hx.symm)
                have hne := bytes_ne hxx
                clear hx hx' HN hxx
                go_wp2
                go_quiet (fail)
                go_wp2
                go_ret
                exact ⟨congrArg (fun b => Ending.returned (Value.bool b)) (decide_eq_false HD.out).symm, by first | exact grown_drewN HG.out (r + nq) | exact grown_drewN (grown_drewN HG.out r) nq⟩
            · obtain rfl : l = m := by omega
              have HN2 : Hid (N = N') := list_eq (by rw [E3.out, E4.out]) (fun j hj => HN.out j (by rw [E3.out] at hj; exact hj))
              go_wp2
              go_ret
              exact ⟨congrArg (fun b => Ending.returned (Value.bool b)) (decide_eq_true ⟨HE2.out, HN2.out⟩).symm, grown_drewN HG.out r⟩
    · have HD : Hid (¬ (L = L' ∧ N = N')) := fun h => hN (by rw [h.2])
      have HG := Lib.hid (((Grown.refl W).alloc #[.slice A L.length ca, .slice B N.length cb] 25).alloc #[.slice A' L'.length ca', .slice B' N'.length cb'] 25)
      have hne : ((N.length : Int) == (N'.length : Int)) = false := by
        rw [beq_eq_false_iff_ne]
        exact fun e => hN (by omega)
      have hL' : (L.length : Int) = (L'.length : Int) := by omega
      clear h h' hL hN
      go_enter Tryd.func15, Tryd.ntmps15
      go_wp2
      all_goals
        go_ret
        exact ⟨congrArg (fun b => Ending.returned (Value.bool b)) (decide_eq_false HD.out).symm, HG.out⟩
  · have HD : Hid (¬ (L = L' ∧ N = N')) := fun h => hL (by rw [h.1])
    have HG := Lib.hid (((Grown.refl W).alloc #[.slice A L.length ca, .slice B N.length cb] 25).alloc #[.slice A' L'.length ca', .slice B' N'.length cb'] 25)
    have hne : ((L.length : Int) == (L'.length : Int)) = false := by
      rw [beq_eq_false_iff_ne]
      exact fun e => hL (by omega)
    clear h h' hL
    go_enter Tryd.func15, Tryd.ntmps15
    go_wp2
    all_goals
      go_ret
      exact ⟨congrArg (fun b => Ending.returned (Value.bool b)) (decide_eq_false HD.out).symm, HG.out⟩
end Go.Proofs.YtcecmkelefhaaaaDoor
