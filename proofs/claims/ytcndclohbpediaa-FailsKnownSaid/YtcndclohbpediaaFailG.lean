/-
  slices.Clone at bools; New: the contract of a plausible fails.
-/
import Derived.Test.YtcndclohbpediaaFailE
import Derived.Test.YtcndclohbpediaaFailF
import Derived.Maps.AppendAt
import Derived.Lib.SliceRun
import Derived.Lib.Walk
namespace Go.Proofs.Ytcndclohbpediaa
open Go.ChangeShapes Go.WideShapes Go.ChangeAt Go.RowKit Go.Joins
set_option linter.unusedVariables false
set_option linter.unusedSimpArgs false

/-- Truths in new memory. -/
def NewT (base : Nat) (w : World) (x : Value) (l : List Bool) : Prop := ∃ A cap, x = .slice A l.length cap ∧ l.length ≤ cap ∧ cap ≤ 9223372036854775807 ∧
  ∀ (j : Nat) c, l[j]? = some c → ∃ b off, A = some ⟨b, off, none⟩ ∧ base ≤ b ∧ w.cell? ⟨b, off + j, none⟩ = some (.bool c)
set_option maxRecDepth 100000 in
theorem info_bo : ∃ i0, Try.prog.info? 4 = some i0 ∧ i0.zero = some (.bool false) ∧ i0.size = 1 ∧ i0.bytes = 1 := ⟨_, rfl, rfl, rfl, rfl⟩
theorem newt_row {w : World} {base : Nat} {v : Value} {l : List Bool} (h : w.ownsRow base 4 1 v l.length (l.map Value.bool)) : NewT base w v l := by
  rcases h.2 with ⟨h0, h1⟩ | ⟨g, cap, cur, h0, h1, h2, h3, h4, h5, h6⟩
  · have : l = [] := List.eq_nil_of_length_eq_zero h1
    subst this
    rw [h0]; exact ⟨none, 0, rfl, Nat.le_refl _, by decide, fun j c hj => by simp at hj⟩
  · refine ⟨_, cap, h0, h3, h4, fun j c hj => ⟨g, 0, rfl, h1, ?_⟩⟩
    have := h.cells (g := g) (by rw [h0]; rfl) j (.bool c) (by rw [List.getElem?_map, hj]; rfl)
    rw [add_eq] at this
    exact this
set_option maxRecDepth 100000 in
theorem fclone_at (w : World) {a0 : Addr} {cap : Nat} {l : List Bool} (h8 : l.length ≤ 1000) (hc : ∀ (j : Nat) x, l[j]? = some x → ∃ g i, a0.add j = ⟨g, i, none⟩ ∧ w.cell? ⟨g, i, none⟩ = some (.bool x)) :
    Calls Try.prog 11 #[.slice (some a0) l.length cap] w fun e w' => ∃ x, e = .returned x ∧ Gw w w' ∧ NewT w.heap.size w' x l := by
  obtain ⟨i0, hi, hz0, hz1, hz2⟩ := info_bo
  have q22 : ∀ (w : World) (a : Option Addr) (n c n' c' : Nat), (binOp .eql 22 (.slice a n c) (.slice none n' c')).run Try.prog w = .ok (.bool a.isNone) w := fun w a n c n' c' => Lib.run_eql_slice_nil w _ _ a n c n' c' Try.underlying22
  have HC := Lib.hid hc
  have H8 := Lib.hid h8
  have HN : Hid (∀ (j : Nat) (u : Value), (l.map Value.bool)[j]? = some u → (w.alloc (.cells #[] 4)).cell? (a0.add j) = some u) := fun j u hj => by
    rw [List.getElem?_map] at hj
    cases e : l[j]? with
    | none => rw [e] at hj; cases hj
    | some x =>
      rw [e] at hj
      cases hj
      obtain ⟨g, i, e1, e2⟩ := hc j x e
      rw [e1]
      exact (Gw.alloc w _).cell e2
  have HL : Hid ((l.map Value.bool).length = l.length * 1) := by show _ = _; simp
  have HO : Hid (∀ u ∈ l.map Value.bool, u.oneCell' = true) := fun u hu => by obtain ⟨x, _, rfl⟩ := List.mem_map.1 hu; rfl
  clear hc h8
  go_enter Try.func11, Try.ntmps11
  go_wp2_with (at_builtin; refine wpList_append_own_at _ rfl _ _ 22 rfl w.heap.size 4 i0 (.bool false) 1 1 Try.underlying22 hi hz0 hz1 hz2 rfl (by decide) _ _ _ rfl (World.ownsRow_made w #[] 0 (Nat.le_refl _) (Nat.zero_le _) rfl) a0 l.length cap (l.map Value.bool) rfl HL.out HN.out HO.out ?_ ?_ (Gw.alloc w _).size ?_)
  · have := H8.out; show _ ≤ _; unfold maxLen; omega
  · have := H8.out; omega
  intro v' w1 hown hgrow hnil hblk
  have HOW := Lib.hid hown
  have HG : Hid (Gw w w1) := (Gw.alloc w (.cells #[] 4)).grown hgrow (fun k hk => by simp [Value.ownBlock] at hk; omega)
  clear hown hgrow hnil hblk
  go_wp2
  go_ret
  refine ⟨v', rfl, HG.out, newt_row HOW.out⟩
set_option maxRecDepth 100000 in
theorem fclone_nil (w : World) (cap : Nat) : Calls Try.prog 11 #[.slice none 0 cap] w fun e w' => ∃ x, e = .returned x ∧ Gw w w' ∧ NewT w.heap.size w' x [] := by
  have q22 : ∀ (w : World) (a : Option Addr) (n c n' c' : Nat), (binOp .eql 22 (.slice a n c) (.slice none n' c')).run Try.prog w = .ok (.bool a.isNone) w := fun w a n c n' c' => Lib.run_eql_slice_nil w _ _ a n c n' c' Try.underlying22
  go_enter Try.func11, Try.ntmps11
  go_wp2
  go_ret
  exact ⟨_, rfl, Gw.refl _, none, 0, rfl, Nat.le_refl _, by decide, fun j c hj => by simp at hj⟩
theorem fclone_any {w : World} {x : Value} {l : List Bool} (hx : BlA w x l) (hl : l.length ≤ 1000) : Calls Try.prog 11 #[x] w fun e w' => ∃ x, e = .returned x ∧ Gw w w' ∧ NewT w.heap.size w' x l := by
  obtain ⟨A, cap, rfl, h1, h2, h3⟩ := hx
  cases A with
  | none =>
    cases l with
    | nil => exact fclone_nil w cap
    | cons b0 l0 => obtain ⟨g, off, e, _⟩ := h3 0 b0 rfl; cases e
  | some a0 =>
    refine fclone_at w hl fun j x hj => ?_
    obtain ⟨g, off, e, c⟩ := h3 j x hj
    injection e with e
    subst e
    exact ⟨g, off + j, add_eq _ _ _, c⟩
set_option maxRecDepth 100000 in
theorem ftt_new {W : World} {x : Value} {l : List Bool} (hx : BlA W x l) (hl : l.length ≤ 1000) : Calls Try.prog 7 #[x] W fun e W' => ∃ a F, e = .returned (.pointer (some a)) ∧ FTT F W' (.pointer (some a)) l 0 ∧ Gw W W' ∧ ∀ k, F k → W.heap.size ≤ k := by
  have CL := fclone_any hx hl
  have HL := Lib.hid hl
  clear hl hx
  go_enter Try.func7, Try.ntmps7
  go_wp2_with (go_at_call 11; (with_reducible refine CL.mono ?_); rintro e w1 ⟨_, rfl, G1, A, cap, rfl, h1, h2, h3⟩; replace G1 := Lib.hid G1; have N1 := Lib.hid h3; clear CL h3)
  go_ret
  have h3 := N1.out
  have Hn : Has (w1.alloc (.cells #[.slice A l.length cap, .int .i64 0] 33)) w1.heap.size 33 #[.slice A l.length cap, .int .i64 0] := Has.new w1 _ _
  have G2 : Gw w1 (w1.alloc (.cells #[.slice A l.length cap, .int .i64 0] 33)) := Gw.alloc w1 _
  refine ⟨_, fun k => W.heap.size ≤ k ∧ k < w1.heap.size + 1, rfl, ⟨w1.heap.size, A, cap, rfl, ⟨G1.out.size, by omega⟩, fun k hk => ?_, Hn, Nat.zero_le _, HL.out, ⟨h1, h2⟩, fun j b hb => ?_⟩, G1.out.trans G2, fun k hk => hk.1⟩
  · have := Hn.lt
    omega
  · obtain ⟨g, off, a, hg, c⟩ := h3 j b hb
    have hlt := lt_cell c
    exact ⟨g, off, a, ⟨hg, by omega⟩, by omega, G2.cell c⟩
theorem fail_c0 : ∃ T : FlP, FailC T := ⟨FTT, {
  lt := fun ⟨p, A, cap, _, h⟩ hk => h.lt _ hk
  same := fun ⟨p, A, cap, e, h⟩ hs => ⟨p, A, cap, e, h.same hs⟩
  new := ftt_new
  next := ftt_next
  used := ftt_used
  may := fun c m hx hl _ _ => fmay_any c m hx hl }⟩
end Go.Proofs.Ytcndclohbpediaa
