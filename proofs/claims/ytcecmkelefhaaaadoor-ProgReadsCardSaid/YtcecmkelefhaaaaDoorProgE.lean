/-
  A row of bytes of the call's own, read as a string.
-/
import Derived.Test.YtcecmkelefhaaaaDoorProgD
import Derived.Test.YtcecmkelefhaaaaDoorProgC
import Derived.Laws.BytesArg
namespace Go.Proofs.YtcecmkelefhaaaaDoor
open Go.ChangeShapes Go.WideShapes Go.ChangeAt Go.RowKit Go.Joins
set_option linter.unusedVariables false

theorem BRel.back {w wr : World} {v : Value} {l : List UInt8} (h : BRel w wr v l) : (convert 28 9 v).run Tryd.prog wr = .ok (.string ⟨l.toArray⟩) wr := by
  rcases h.own.2 with ⟨h0, h1⟩ | ⟨g', c, cur, h0, hb, _⟩
  · have : l = [] := List.eq_nil_of_length_eq_zero h1
    subst this
    subst h0
    rw [run_convert_bytes_string wr _ _ _ Option.none 0 0 Tryd.underlying28 Tryd.underlying5 Tryd.underlying9]
    rfl
  · subst h0
    exact run_convert_bytes_back (P := Tryd.prog) wr 28 9 5 ⟨g', 0, Option.none⟩ c l Tryd.underlying28 Tryd.underlying5 Tryd.underlying9 (fun j hj => by
      rw [add_eq, Nat.zero_add, World.ownsRow.cellAt h.own j (by omega)]
      simp [u8s, hj])
theorem lay_two (w : World) (A B A' B' : Option Addr) (n m n' m' ca cb ca' cb' : Nat) : ∀ W1, W1 = (w.alloc (.cells #[.slice A n ca, .slice B m cb] 25)).alloc (.cells #[.slice A' n' ca', .slice B' m' cb'] 25) →
    (W1.cell? ⟨w.heap.size, 0, none⟩ = some (.slice A n ca) ∧ W1.cell? ⟨w.heap.size, 1, none⟩ = some (.slice B m cb)) ∧ (W1.cell? ⟨w.heap.size + 1, 0, none⟩ = some (.slice A' n' ca') ∧ W1.cell? ⟨w.heap.size + 1, 1, none⟩ = some (.slice B' m' cb')) ∧ Gw w W1 := by
  intro W1 h
  subst h
  have hs : (w.alloc (.cells #[.slice A n ca, .slice B m cb] 25)).heap.size = w.heap.size + 1 := by show (w.heap.push _).size = _; simp
  obtain ⟨c0, c1, _, _⟩ := two_cells (heap_alloc_new (w.alloc (.cells #[.slice A n ca, .slice B m cb] 25)) (.cells #[.slice A' n' ca', .slice B' m' cb'] 25))
  obtain ⟨d0, d1, _, _⟩ := two_cells (grown_row (((Grown.refl (w.alloc (.cells #[.slice A n ca, .slice B m cb] 25)))).alloc #[.slice A' n' ca', .slice B' m' cb'] 25) (heap_alloc_new w (.cells #[.slice A n ca, .slice B m cb] 25)))
  rw [hs] at c0 c1
  exact ⟨⟨d0, d1⟩, ⟨c0, c1⟩, (Gw.alloc _ _).trans (Gw.alloc _ _)⟩
theorem POk.gw {W W' : World} {A B : Option Addr} {L : List (Int × Int)} {N : List ByteArray} {ca cb : Nat} (h : POk W A L ca B N cb) (g : Gw W W') : POk W' A L ca B N cb := h.keep (fun k hk => g.block k hk) g.size
theorem BRel.keep {w wr w' : World} {v : Value} {l : List UInt8} (h : BRel w wr v l) (g : Gw wr w') : BRel w w' v l := by
  refine ⟨⟨h.own.1, ?_⟩, h.gw.trans g⟩
  rcases h.own.2 with h0 | ⟨b, cap, cur, h0, h1, h2, h3⟩
  · exact .inl h0
  · exact .inr ⟨b, cap, cur, h0, h1, (g.block b (Array.getElem?_eq_some_iff.1 h2).1).trans h2, h3⟩
theorem small_is {L : List (Int × Int)} {N : List ByteArray} (h : smallB L N = true) : L.length ≤ 500 ∧ N.length ≤ 100 ∧ total N ≤ 5000 := by
  unfold smallB at h
  simp only [Bool.and_eq_true, decide_eq_true_eq] at h
  exact ⟨h.1.1, h.1.2, h.2⟩
theorem post_zero {L : List (Int × Int)} {N : List ByteArray} {f : FuncId} {args : Array Value} {W : World} (h : Calls Tryd.prog f args W (BytesPost L N W)) (h0 : errP L N = 0) :
    Calls Tryd.prog f args W fun e w' => ∃ v, e = .returned (.tuple #[v, .int .i64 0]) ∧ BRel W w' v (encP L N) :=
  h.mono fun e w' ⟨v, he, hr⟩ => ⟨v, by rw [h0] at he; exact he, by rw [if_pos h0] at hr; exact hr⟩
theorem post_bad {L : List (Int × Int)} {N : List ByteArray} {f : FuncId} {args : Array Value} {W : World} {x : Int} (h : Calls Tryd.prog f args W (BytesPost L N W)) (hx : errP L N = x) (h0 : ¬ x = 0) :
    Calls Tryd.prog f args W fun e w' => ∃ v, e = .returned (.tuple #[v, .int .i64 x]) ∧ BRel W w' v [] :=
  h.mono fun e w' ⟨v, he, hr⟩ => ⟨v, by rw [hx] at he; exact he, by rw [hx, if_neg h0] at hr; exact hr⟩
end Go.Proofs.YtcecmkelefhaaaaDoor
