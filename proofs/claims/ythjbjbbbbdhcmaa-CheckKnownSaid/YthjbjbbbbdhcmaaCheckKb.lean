/-
  CheckKnown's twelve programs, laid in whatever order.
-/
import Derived.Test.YthjbjbbbbdhcmaaCheckY
import Derived.Test.YthjbjbbbbdhcmaaCheckA
import Derived.Test.YthjbjbbbbdhcmaaGenR
namespace Go.Proofs.Ythjbjbbbbdhcmaa
open Go.ChangeShapes Go.WideShapes Go.ChangeAt Go.RowKit Go.Joins
set_option linter.unusedVariables false

/-- The twelve programs. -/
def progsK : List (List (Int × Int) × List ByteArray) := [([], []), ([(1, 0), (26, 0)], [⟨#[65]⟩]), ([(1, 0), (99, 0), (26, 0)], [⟨#[97]⟩]), ([(27, 1), (26, 0)], [⟨#[97]⟩]), ([(22, 2), (26, 0)], [⟨#[97]⟩]), ([(1, 0)], [⟨#[97]⟩]), ([(26, 0)], [⟨#[97]⟩]), ([(1, 0), (23, 3), (1, 0), (1, 0), (26, 0)], [⟨#[97]⟩]), ([(1, 0), (1, 0), (1, 0), (23, 1), (26, 0)], [⟨#[97]⟩]), ([(2, 0), (1, 0), (26, 0)], [⟨#[97]⟩]), ([(22, 0)], [⟨#[97]⟩]), ([(22, 3), (2, 0), (26, 0), (1, 0), (26, 0)], [⟨#[97]⟩])]
abbrev xFn : Value := .func (.func 14) #[] #[]
/-- A program's cells, whatever their kind. -/
def iC (l : List (Int × Int)) : Array Value := (l.flatMap fun x => [Value.int .i64 x.1, Value.int .i64 x.2]).toArray
/-- A value that is a program. -/
def PrgV (w : World) (v : Value) (L : List (Int × Int)) (N : List ByteArray) : Prop := ∃ A ca B cb, v = .agg #[.slice A L.length ca, .slice B N.length cb] ∧ POk w A L ca B N cb
/-- What an operation brings. -/
inductive Sp where
  | val (v : Value)
  | row (l : List (Int × Int))
  | str (s : ByteArray)
  | prg (k : Nat)
  | all
def Sp.ok : Sp → Value → World → Prop
  | .val x, v, _ => v = x
  | .row l, v, w => ∃ g, v = .slice (some ⟨g, 0, none⟩) l.length l.length ∧ Has w g 38 (iC l)
  | .str s, v, w => ∃ g, v = .slice (some ⟨g, 0, none⟩) 1 1 ∧ Has w g 9 #[.string s]
  | .prg k, v, w => PrgV w v (progsK.getD k ([], [])).1 (progsK.getD k ([], [])).2
  | .all, v, w => ∃ g cs, v = .slice (some ⟨g, 0, none⟩) 12 12 ∧ Has w g 25 cs ∧ ∀ i, i < 12 → ∃ A ca B cb, cs[i * 2]? = some (.slice A (progsK.getD i ([], [])).1.length ca) ∧ cs[i * 2 + 1]? = some (.slice B (progsK.getD i ([], [])).2.length cb) ∧ POk w A (progsK.getD i ([], [])).1 ca B (progsK.getD i ([], [])).2 cb
theorem PrgV.on {w w' : World} {v : Value} {L : List (Int × Int)} {N : List ByteArray} (h : PrgV w v L N) (g : Gw w w') : PrgV w' v L N := by
  obtain ⟨A, ca, B, cb, e, k⟩ := h
  exact ⟨A, ca, B, cb, e, k.gw g⟩
theorem Sp.on {s : Sp} {v : Value} {w w' : World} (h : s.ok v w) (g : Gw w w') : s.ok v w' := by
  cases s with
  | val x => exact h
  | row l => obtain ⟨b, e, k⟩ := h; exact ⟨b, e, k.on g⟩
  | str s => obtain ⟨b, e, k⟩ := h; exact ⟨b, e, k.on g⟩
  | prg k => exact PrgV.on h g
  | all =>
    obtain ⟨b, cs, e, k, m⟩ := h
    refine ⟨b, cs, e, k.on g, fun i hi => ?_⟩
    obtain ⟨A, ca, B, cb, h1, h2, h3⟩ := m i hi
    exact ⟨A, ca, B, cb, h1, h2, h3.gw g⟩
def spK : List Sp := [.prg 0, .val (.agg #[.int .i64 1, .int .i64 0]), .val (.agg #[.int .i64 26, .int .i64 0]), .row [(1, 0), (26, 0)], .str ⟨#[65]⟩, .prg 1, .val xFn, .val (.agg #[.int .i64 1, .int .i64 0]), .val (.agg #[.int .i64 99, .int .i64 0]), .val (.agg #[.int .i64 26, .int .i64 0]), .row [(1, 0), (99, 0), (26, 0)], .prg 2, .val xFn, .val (.agg #[.int .i64 27, .int .i64 1]), .val (.agg #[.int .i64 26, .int .i64 0]), .row [(27, 1), (26, 0)], .prg 3, .val xFn, .val (.agg #[.int .i64 22, .int .i64 2]), .val (.agg #[.int .i64 26, .int .i64 0]), .row [(22, 2), (26, 0)], .prg 4, .val xFn, .val (.agg #[.int .i64 1, .int .i64 0]), .row [(1, 0)], .prg 5, .val xFn, .val (.agg #[.int .i64 26, .int .i64 0]), .row [(26, 0)], .prg 6, .val xFn, .val (.agg #[.int .i64 1, .int .i64 0]), .val (.agg #[.int .i64 23, .int .i64 3]), .val (.agg #[.int .i64 1, .int .i64 0]), .val (.agg #[.int .i64 1, .int .i64 0]), .val (.agg #[.int .i64 26, .int .i64 0]), .row [(1, 0), (23, 3), (1, 0), (1, 0), (26, 0)], .prg 7, .val xFn, .val (.agg #[.int .i64 1, .int .i64 0]), .val (.agg #[.int .i64 1, .int .i64 0]), .val (.agg #[.int .i64 1, .int .i64 0]), .val (.agg #[.int .i64 23, .int .i64 1]), .val (.agg #[.int .i64 26, .int .i64 0]), .row [(1, 0), (1, 0), (1, 0), (23, 1), (26, 0)], .prg 8, .val xFn, .val (.agg #[.int .i64 2, .int .i64 0]), .val (.agg #[.int .i64 1, .int .i64 0]), .val (.agg #[.int .i64 26, .int .i64 0]), .row [(2, 0), (1, 0), (26, 0)], .prg 9, .val xFn, .val (.agg #[.int .i64 22, .int .i64 0]), .row [(22, 0)], .prg 10, .val xFn, .val (.agg #[.int .i64 22, .int .i64 3]), .val (.agg #[.int .i64 2, .int .i64 0]), .val (.agg #[.int .i64 26, .int .i64 0]), .val (.agg #[.int .i64 1, .int .i64 0]), .val (.agg #[.int .i64 26, .int .i64 0]), .row [(22, 3), (2, 0), (26, 0), (1, 0), (26, 0)], .prg 11, .all, .all]
def KnOk (j : Nat) (v : Value) (w : World) : Prop := (spK.getD j (.val undef)).ok v w
theorem iC_at {l : List (Int × Int)} {i : Nat} {x : Int × Int} (h : l[i]? = some x) : (iC l)[i * 2]? = some (.int .i64 x.1) ∧ (iC l)[i * 2 + 1]? = some (.int .i64 x.2) := by
  have hl : ∀ y ∈ l, ([Value.int .i64 y.1, Value.int .i64 y.2] : List Value).length = 2 := fun _ _ => rfl
  have key : ∀ (l : List (Int × Int)) (i : Nat) (x : Int × Int), l[i]? = some x → (l.flatMap fun x => [Value.int .i64 x.1, Value.int .i64 x.2])[i * 2]? = some (.int .i64 x.1) ∧ (l.flatMap fun x => [Value.int .i64 x.1, Value.int .i64 x.2])[i * 2 + 1]? = some (.int .i64 x.2) := by
    intro l
    induction l with
    | nil => intro i x h; simp at h
    | cons y l ih =>
      intro i x h
      cases i with
      | zero => simp at h; subst h; exact ⟨rfl, rfl⟩
      | succ i =>
        have := ih i x (by simpa using h)
        rw [List.flatMap_cons]
        have e1 : (i + 1) * 2 = i * 2 + 2 := by omega
        have e2 : (i + 1) * 2 + 1 = i * 2 + 1 + 2 := by omega
        rw [e1, show i * 2 + 2 + 1 = i * 2 + 1 + 2 from rfl]
        exact this
  unfold iC
  rw [List.getElem?_toArray, List.getElem?_toArray]
  exact key l i x h
theorem prg_of {w : World} {g h : Nat} {l : List (Int × Int)} {s : ByteArray} (h1 : Has w g 38 (iC l)) (h2 : Has w h 9 #[.string s]) (hs : s.size ≤ 140737488351232) (hl : l.length ≤ 1000) (hw : ∀ x ∈ l, (Lit.int .i64 x.1).wf = true ∧ (Lit.int .i64 x.2).wf = true) :
    PrgV w (.agg #[.slice (some ⟨g, 0, none⟩) l.length l.length, .slice (some ⟨h, 0, none⟩) 1 1]) l [s] := by
  refine ⟨_, _, _, _, rfl, ⟨Nat.le_refl _, by omega, Nat.le_refl _, by decide, fun i x hx => ?_, fun i t ht => ?_, fun t ht => ?_, hw⟩⟩
  · obtain ⟨k1, k2⟩ := iC_at hx
    refine ⟨g, 0, rfl, h1.lt, ?_, ?_⟩
    · rw [Nat.zero_add, h1.cell]; exact k1
    · rw [Nat.zero_add, h1.cell]; exact k2
  · have hi : i = 0 := by have := (List.getElem?_eq_some_iff.1 ht).1; simp at this; omega
    subst hi
    simp at ht
    subst ht
    exact ⟨h, 0, rfl, h2.lt, h2.cell 0⟩
  · simp at ht
    subst ht
    exact hs
theorem prg_nil (w : World) : PrgV w (.agg #[.slice none 0 0, .slice none 0 0]) [] [] :=
  ⟨none, 0, none, 0, rfl, ⟨Nat.le_refl _, by decide, Nat.le_refl _, by decide, (fun i x hx => by simp at hx), (fun i s hs => by simp at hs), (fun s hs => by cases hs), (fun x hx => by cases hx)⟩⟩
/-- The closure x. -/
theorem x_any (g n : Nat) (w : World) : Calls Try.prog 14 #[.slice (some ⟨g, 0, none⟩) n n] w fun e w' => ∃ h, e = .returned (.agg #[.slice (some ⟨g, 0, none⟩) n n, .slice (some ⟨h, 0, none⟩) 1 1]) ∧ Has w' h 9 #[.string ⟨#[97]⟩] ∧ Gw w w' := by
  go_enter Try.func14, Try.ntmps14
  go_wp2
  have H2 : Has ((w.alloc (.cells #[.slice (some ⟨g, 0, none⟩) n n, .slice (some ⟨w.heap.size + 1, 0, none⟩) 1 1] 25)).alloc (.cells #[.string ⟨#[97]⟩] 9)) (w.heap.size + 1) 9 #[.string ⟨#[97]⟩] := by
    have := Has.new (w.alloc (.cells #[.slice (some ⟨g, 0, none⟩) n n, .slice (some ⟨w.heap.size + 1, 0, none⟩) 1 1] 25)) 9 #[.string ⟨#[97]⟩]
    rw [size_alloc] at this
    exact this
  refine bodyPost_ret (results_cell_row rfl _ _ w.heap.size _ _ _ _ rfl ((Has.new w _ _).on (Gw.alloc _ _)) Try.underlying25 rfl (by kernel_rfl)) rfl ?_
  exact ⟨_, rfl, H2, (Gw.alloc _ _).trans (Gw.alloc _ _)⟩
/-- The frame, by what each operation brought. -/
def mkK (p q o : Nat) (v : Nat → Value) : Act := { tmps := #[.bool false, xFn, .pointer (some ⟨p, 0, none⟩), .pointer (some ⟨q, 0, none⟩), .pointer (some ⟨o, 0, none⟩), v 65, undef, undef, undef, undef, undef, undef, undef, undef, undef, undef, undef, .bool true, .bool false, .agg #[.int .i64 1, .int .i64 0], .agg #[.int .i64 26, .int .i64 0], .agg #[.int .i64 2, .int .i64 0], v 0, v 1, v 2, v 3, v 4, v 5, v 6, v 7, v 8, v 9, v 10, v 11, v 12, v 13, v 14, v 15, v 16, v 17, v 18, v 19, v 20, v 21, v 22, v 23, v 24, v 25, v 26, v 27, v 28, v 29, v 30, v 31, v 32, v 33, v 34, v 35, v 36, v 37, v 38, v 39, v 40, v 41, v 42, v 43, v 44, v 45, v 46, v 47, v 48, v 49, v 50, v 51, v 52, v 53, v 54, v 55, v 56, v 57, v 58, v 59, v 60, v 61, v 62, v 63, v 64, undef, undef, undef, undef, undef, undef, undef, undef, undef, undef, undef, undef, undef, undef, undef, undef, undef, undef, undef, undef, undef, undef, undef, undef, undef, undef, undef, undef, undef, undef, undef, undef, undef, undef, undef, undef, undef, undef, undef, undef, undef, undef, undef, undef, undef, undef, undef, undef, undef, undef, undef, undef, undef, undef, undef, undef, undef, undef, undef, undef, undef, undef, undef, undef, undef, undef, undef, undef, undef, undef, undef, undef, undef, undef, undef, undef, undef, undef, undef, undef, undef, undef, undef, undef, undef, undef, undef, undef, undef, undef, undef, undef, undef, undef, undef, undef, undef, undef, undef, undef, undef, undef, undef, undef, undef, undef, undef, undef, undef, undef, undef], defers := [] }
end Go.Proofs.Ythjbjbbbbdhcmaa
