/-
  The program's own tree: the world's relation to the plain data; what a look-up gives; of, above, deep, place, find.
-/
import Derived.Test.YtlnobekjcengfaaTreeTm
import Derived.Deep.RegionLaw
namespace Go.Proofs.Ytlnobekjcengfaa
open Go.ChangeShapes Go.WideShapes Go.ChangeAt Go.RowKit Go.Joins
set_option linter.unusedVariables false
set_option linter.unusedSimpArgs false

structure MT (w : World) (g : Nat) (m : Option Nat) (s : St) : Prop where
  hd : Has w g 66 #[.map m, .int .i64 s.nx]
  mp : (m = none ∧ s.l = []) ∨ ∃ b D, m = some b ∧ w.ownsMap Try.prog tK eElem b s.l.length D ∧ MpIs D s.l
theorem mown_same {w w' : World} {b n : Nat} {D : DataW Unit} (h : w.ownsMap Try.prog tK eElem b n D) (e : w'.heap[b]? = w.heap[b]?) : w'.ownsMap Try.prog tK eElem b n D := by
  obtain ⟨es, clock, hb, r⟩ := h
  exact ⟨es, clock, e.trans hb, r⟩
/-- The blocks of a tree. -/
abbrev mtF (g : Nat) (m : Option Nat) : Nat → Prop := fun k => k = g ∨ m = some k
section
variable {w w' : World} {g : Nat} {m : Option Nat} {s : St}
theorem MT.lt (h : MT w g m s) {k : Nat} (hk : mtF g m k) : k < w.heap.size := by
  rcases hk with rfl | rfl
  · exact h.hd.lt
  · rcases h.mp with ⟨h1, _⟩ | ⟨b, D, h1, h2, _⟩
    · cases h1
    · cases h1; exact h2.lt
theorem MT.same (h : MT w g m s) (e : ∀ k, mtF g m k → w'.heap[k]? = w.heap[k]?) : MT w' g m s := by
  refine ⟨h.hd.same (e g (.inl rfl)), ?_⟩
  rcases h.mp with h1 | ⟨b, D, h1, h2, h3⟩
  · exact .inl h1
  · exact .inr ⟨b, D, h1, mown_same h2 (e b (.inr h1)), h3⟩
theorem MT.on (h : MT w g m s) (G : Gw w w') : MT w' g m s := h.same fun k hk => G.block k (h.lt hk)
theorem MT.ne (h : MT w g m s) {b : Nat} (hb : m = some b) : b ≠ g := by
  rintro rfl
  rcases h.mp with ⟨h1, _⟩ | ⟨b', D, h1, h2, _⟩
  · rw [h1] at hb; cases hb
  · rw [h1] at hb
    cases hb
    obtain ⟨es, clock, h4, _⟩ := h2
    have := h.hd
    unfold Has at this
    rw [h4] at this
    cases this
/-- What a look-up answers. -/
def lkN : Option Itm → Int | none => 0 | some i => i.n
def lkD : Option Itm → Bool | none => false | some i => i.d
theorem zeroE (w : World) : (zeroValue tE).run Try.prog w = .ok (entV 0 false) w := by kernel_rfl
theorem MT.look (h : MT w g m s) (ok : Ok s.l) {p : Pr} (hp : Pk p) : (Instr.lookup tMp (.map m) (tV p) true).run Try.prog w = .ok (.tuple #[entV (lkN (nlook s.l p)) (lkD (nlook s.l p)), .bool (nlook s.l p).isSome]) w := by
  rcases h.mp with ⟨rfl, h2⟩ | ⟨b, D, rfl, h2, h3⟩
  · have := Maps.look_nil (w := w) true keyedName Try.underlying64 (zeroE w) (key_of hp)
    rw [this, h2]; rfl
  · obtain ⟨v, ps, hr, hv⟩ := h2.look_ok keyedName Try.underlying64 (zeroE w) (eElem_mk 0 false) (key_of hp)
    rw [hr]
    cases hk : nlook s.l p with
    | none =>
      have e1 := h3.miss hp hk
      rw [Maps.atKey_of_not_has e1] at hv
      obtain ⟨n, d, rfl, e2⟩ := eElem_inv hv
      obtain ⟨rfl, rfl⟩ := entD_inj (Prod.mk.inj e2).1
      rw [e1]; rfl
    | some i =>
      obtain ⟨e1, e3⟩ := h3.hit ok hp hk
      rw [e3] at hv
      obtain ⟨n, d, rfl, e2⟩ := eElem_inv hv
      obtain ⟨rfl, rfl⟩ := entD_inj (Prod.mk.inj e2).1
      rw [e1]; rfl
theorem MT.look1 (h : MT w g m s) (ok : Ok s.l) {p : Pr} (hp : Pk p) : (Instr.lookup tMp (.map m) (tV p) false).run Try.prog w = .ok (entV (lkN (nlook s.l p)) (lkD (nlook s.l p))) w := by
  rcases h.mp with ⟨rfl, h2⟩ | ⟨b, D, rfl, h2, h3⟩
  · have := Maps.look_nil (w := w) false keyedName Try.underlying64 (zeroE w) (key_of hp)
    rw [this, h2]; rfl
  · obtain ⟨v, ps, hr, hv⟩ := h2.lookup keyedName Try.underlying64 (zeroE w) (eElem_mk 0 false) (key_of hp)
    rw [hr]
    cases hk : nlook s.l p with
    | none =>
      have e1 := h3.miss hp hk
      rw [Maps.atKey_of_not_has e1] at hv
      obtain ⟨n, d, rfl, e2⟩ := eElem_inv hv
      obtain ⟨rfl, rfl⟩ := entD_inj (Prod.mk.inj e2).1
      rfl
    | some i =>
      obtain ⟨e1, e3⟩ := h3.hit ok hp hk
      rw [e3] at hv
      obtain ⟨n, d, rfl, e2⟩ := eElem_inv hv
      obtain ⟨rfl, rfl⟩ := entD_inj (Prod.mk.inj e2).1
      rfl
theorem MT.len (h : MT w g m s) (ty : TypeId) : (Builtin.len_ #[tMp] ty #[.map m]).run Try.prog w = .ok (.int .i64 s.l.length) w := by
  rcases h.mp with ⟨rfl, h2⟩ | ⟨b, D, rfl, h2, h3⟩
  · rw [Maps.len_nil (w := w) Try.underlying64 ty, h2]; rfl
  · rw [h2.len Try.underlying64 ty, h3.size]
end
/-! ### of, above, deep -/
theorem tof_any (s : ByteArray) (W : World) (hs : s.size ≤ 140737488351232) : Calls Try.prog 30 #[.string s] W fun e W' => e = .returned (tV (spl s.data.toList)) ∧ Gw W W' := by
  have F := fun w => split_any s w hs
  generalize spl s.data.toList = p at F ⊢
  obtain ⟨p1, p2⟩ := p
  go_enter Try.func30, Try.ntmps30
  go_wp2_with (go_at_call 40; with_reducible refine (F _).mono ?_; rintro e w1 ⟨rfl, G1⟩; have HB := (Has.new W 75 #[.string ⟨#[]⟩, .string ⟨#[]⟩]).on G1; obtain ⟨c1, f1⟩ := box1 HB; obtain ⟨c0, f0⟩ := box0 HB)
  obtain ⟨e1, e2⟩ := of_end (x := .string (bs p1)) (y := .string (bs p2)) HB G1
  refine bodyPost_ret (results_cell_row rfl _ _ W.heap.size _ _ _ _ rfl e1 Try.underlying75 rfl (by kernel_rfl)) rfl ?_
  exact ⟨rfl, e2⟩
theorem tabove_any (p : Pr) (W : World) : Calls Try.prog 43 #[tV p] W fun e W' => e = .returned (tV ([], p.1)) ∧ Gw W W' := by
  obtain ⟨p1, p2⟩ := p
  have HB := Has.new (W.alloc (.cells #[.string (bs p1), .string (bs p2)] 75)) 75 #[.string ⟨#[]⟩, .string (bs p1)]
  rw [size_alloc] at HB
  have G : Gw W ((W.alloc (.cells #[.string (bs p1), .string (bs p2)] 75)).alloc (.cells #[.string ⟨#[]⟩, .string (bs p1)] 75)) := (Gw.alloc _ _).trans (Gw.alloc _ _)
  go_enter Try.func43, Try.ntmps43
  go_wp2
  refine bodyPost_ret (results_cell_row rfl _ _ (W.heap.size + 1) _ _ _ _ rfl HB Try.underlying75 rfl (by kernel_rfl)) rfl ?_
  exact ⟨rfl, G⟩
theorem tdeep_any (p : Pr) (W : World) : Calls Try.prog 42 #[tV p] W fun e W' => e = .returned (.bool (!decide (p.1 = []))) ∧ Gw W W' := by
  obtain ⟨p1, p2⟩ := p
  have G : Gw W (W.alloc (.cells #[.string (bs p1), .string (bs p2)] 75)) := Gw.alloc _ _
  go_enter Try.func42, Try.ntmps42
  go_wp2
  go_ret
  exact ⟨by rw [bs_list]; cases p1 <;> rfl, G⟩
/-! ### place, find -/
def plI (l : List Itm) (p : Pr) : Int := if p = ([], []) then 65282 else if p.1 = [] then 0 else match nlook l ([], p.1) with | none => 65282 | some i => if i.d = true then 0 else 65300
end Go.Proofs.Ytlnobekjcengfaa
