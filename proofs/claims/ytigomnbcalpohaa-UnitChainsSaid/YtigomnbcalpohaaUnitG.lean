/-
  What follow of package unit goes by: what is left of clauses while a literal is gone through.
-/
import Derived.Test.YtigomnbcalpohaaUnitS
namespace Go.Proofs.Ytigomnbcalpohaa
open Go.ChangeShapes Go.WideShapes Go.ChangeAt Go.RowKit
set_option linter.unusedVariables false

/-- A call that leaves the world alone, behind draws. -/
theorem calm_one {P : Program} {f : FuncId} {args : Array Value} {w : World} {n : Nat} {v : Value} (h : ∀ W : World, Calls P f args W fun e W' => e = .returned v ∧ W = W') :
    Calls P f args (w.drewN n) fun e W => e = .returned v ∧ ∃ m, W = w.drewN m := (h _).mono fun _ _ k => ⟨k.1, n, k.2.symm⟩
theorem calm_two {P : Program} {f : FuncId} {args : Array Value} {w : World} {a n : Nat} {v : Value} (h : ∀ W : World, Calls P f args W fun e W' => e = .returned v ∧ W = W') :
    Calls P f args (w.drewN (a + n)) fun e W => e = .returned v ∧ ∃ m, W = w.drewN (a + m) := (h _).mono fun _ _ k => ⟨k.1, n, k.2.symm⟩
def DD (done : List Int) (h : Int) (gs : List Nat) (i : Nat) : List Int := if i ∈ gs then done ++ [h] else done
section
variable {n : Nat} {cs : List (List Int)} {m t hs done lf : List Int} {h : Int} {ws : List Nat} {j i : Nat} {c : List Int}
theorem Fw.next (F : Fw n cs m t hs (DD done h (ws.take j)) lf (fun _ => True)) (hn : ∀ c ∈ cs, c.Nodup) (hw : ws = wl cs (-h)) (hi : ws[j]? = some i) (hc : cs[i]? = some c) (hh : h ∈ hs) (hd : h ∉ done) :
    lf[i]? = some (cnt done c : Int) ∧ Fw n cs m t hs (DD done h (ws.take (j + 1))) (lf.set i ((cnt done c : Int) - 1)) (fun j' => True ∧ j' ≠ i) := by
  have hnd : ws.Nodup := by rw [hw]; exact wl_nodup _ _
  obtain ⟨hj, hi'⟩ := List.getElem?_eq_some_iff.1 hi
  have hno : i ∉ ws.take j := fun hm => by
    obtain ⟨k, hk, e⟩ := List.mem_iff_getElem.1 hm
    rw [List.length_take] at hk
    rw [List.getElem_take, ← hi'] at e
    have := (List.getElem_inj hnd).1 e
    omega
  have e0 : DD done h (ws.take j) i = done := by unfold DD; rw [if_neg hno]
  have hx : -h ∈ c := by
    have hm : i ∈ ws := List.mem_of_getElem? hi
    rw [hw] at hm
    obtain ⟨d, hd', hx⟩ := wl_mem.1 hm
    rw [hc] at hd'; injection hd' with hd'; rw [hd']; exact hx
  have hl := F.left i c hc
  rw [e0] at hl
  refine ⟨hl, ?_⟩
  have G := F.dec hc (hn c (List.mem_of_getElem? hc)) hx (by rw [e0]; exact hd) hh
  rw [e0] at G
  have e : ∀ j', DD done h (ws.take (j + 1)) j' = if j' = i then done ++ [h] else DD done h (ws.take j) j' := fun j' => by
    unfold DD
    rw [List.take_succ_eq_append_getElem hj, hi']
    by_cases e : j' = i
    · subst e; simp
    · simp [e]
  exact G.same (fun j' d _ => by rw [e]) (fun j' x hx' => by rw [e] at hx'; exact G.sub j' x hx')
theorem Fw.begin_ (F : Fw n cs m t hs (fun _ => done) lf (fun _ => True)) : Fw n cs m t hs (DD done h (ws.take 0)) lf (fun _ => True) :=
  F.same (fun j d _ => by unfold DD; simp) (fun j x hx => by unfold DD at hx; simp at hx; exact F.sub j x hx)
theorem Fw.end_ (F : Fw n cs m t hs (DD done h (ws.take j)) lf (fun _ => True)) (hj : ws.length ≤ j) (hw : ws = wl cs (-h)) (hh : h ∈ hs) (hsub : ∀ x ∈ done, x ∈ hs) : Fw n cs m t hs (fun _ => done ++ [h]) lf (fun _ => True) := by
  rw [List.take_of_length_le hj] at F
  refine F.same (fun i d hd => ?_) (fun i x hx => ?_)
  · unfold DD
    by_cases e : i ∈ ws
    · rw [if_pos e]
    · rw [if_neg e]
      refine cnt_no fun hm => e ?_
      rw [hw]; exact wl_mem.2 ⟨d, hd, hm⟩
  · rcases List.mem_append.1 hx with hx | hx
    · exact hsub x hx
    · simp at hx; subst hx; exact hh
end
def FollowPost (B : Nat) (τ : Nat → Nat) (W : World) (p n : Nat) (cs : List (List Int)) (F : Nat → List Nat) (cv lv wv tv : Value) (m : List Int) (e : Ending) (W' : World) : Prop :=
  (e = .returned (.bool true) ∧ ∃ τ' t' hs' lf' hv', Ch B τ' W' p n cs lf' F t' hs' cv lv wv tv hv' ∧ Ans n cs m (some t') ∧ Step RF τ τ' W W') ∨
  (e = .returned (.bool false) ∧ Ans n cs m none ∧ ∃ τ', Step RF τ τ' W W')
section
variable {B : Nat} {τ : Nat → Nat} {W : World} {p n : Nat} {cs : List (List Int)} {F : Nat → List Nat} {cv lv wv tv hv : Value} {m : List Int}
theorem Ch.heldAt {lf t hs : List Int} (h : Ch B τ W p n cs lf F t hs cv lv wv tv hv) {k : Nat} {x : Int} (hx : hs[k]? = some x) : ∃ g cap, hv = .slice (some ⟨g, 0, none⟩) hs.length cap ∧ W.cell? ⟨g, k, none⟩ = some (.int .i64 x) ∧ hs.length ≤ cap ∧ cap ≤ 9223372036854775807 := by
  obtain ⟨g, cap, h1, _, h2, h3, h4, h5⟩ := h.hrow.cells k (.int .i64 x) (by rw [List.getElem?_map, hx]; rfl)
  rw [List.length_map] at h1 h4
  exact ⟨g, cap, h1, h2, h4, h5⟩
theorem Ch.heldForm {lf t hs : List Int} (h : Ch B τ W p n cs lf F t hs cv lv wv tv hv) : ∃ A cap, hv = .slice A hs.length cap := by have := h.hrow.form; rwa [List.length_map] at this
theorem Ch.withAt {lf t hs : List Int} (h : Ch B τ W p n cs lf F t hs cv lv wv tv hv) {q : Nat} (hq : q < 2 * n) : ∃ wb A cap, wv = .slice (some ⟨wb, 0, none⟩) (2 * n) (2 * n) ∧ W.cell? ⟨wb, q, none⟩ = some (.slice A (F q).length cap) ∧ Row τ (8 + q) W 3 (.slice A (F q).length cap) (nats (F q)) := by
  obtain ⟨wb, wvs, h1, h2, h3, h4⟩ := h.wrow
  obtain ⟨v, hv, hr⟩ := h4 q hq
  obtain ⟨A, cap, hf⟩ := hr.form
  rw [List.length_map] at hf
  exact ⟨wb, A, cap, h1, by rw [h2.cell, hv, hf], by rw [← hf]; exact hr⟩
theorem Ch.clausesForm {lf t hs : List Int} (h : Ch B τ W p n cs lf F t hs cv lv wv tv hv) : ∃ A cap, cv = .slice A cs.length cap := by
  obtain ⟨cvs, h1, h2, _⟩ := h.crow
  obtain ⟨A, cap, hf⟩ := h1.form
  exact ⟨A, cap, by rw [hf, h2]⟩
end
end Go.Proofs.Ytigomnbcalpohaa
