/-
  What a law of stage 10 begins with: the document's example (awake); the table that was laid; a row of bytes handed to Read.
-/
import Derived.Test.YtcecmkelefhaaaaDoorProgT
import Derived.Test.YtcecmkelefhaaaaDoorProgJ
import Derived.Test.YtcecmkelefhaaaaDoorTie
import Derived.Test.YtcecmkelefhaaaaDoorCards
import Derived.ProofKit
import Derived.LaidMore
import Derived.OpenShut
import Derived.SevenTiedAt
import Derived.Stop.Joined
import Derived.ChangeSame
import Derived.Carry
import Derived.Deep.QuietTactic
import Derived.BigQuiet
namespace Go.Proofs.YtcecmkelefhaaaaDoor
open Go.ChangeShapes Go.WideShapes Go.ChangeAt Go.RowKit Go.Joins
set_option linter.unusedVariables false

theorem BRel.byat {w wr : World} {v : Value} {l : List UInt8} (h : BRel w wr v l) : ∃ A cap, v = .slice A l.length cap ∧ l.length ≤ cap ∧ cap ≤ 9223372036854775807 ∧ ByAt wr A l := by
  rcases h.own.2 with ⟨h0, h1⟩ | ⟨g, cap, cur, h0, h1, h2, h3, h4, _⟩
  · have : l = [] := List.eq_nil_of_length_eq_zero h1
    subst this
    exact ⟨Option.none, 0, h0, Nat.le_refl _, by omega, ByAt.nil _ _⟩
  · have ho := h.own
    subst h0
    refine ⟨_, cap, rfl, h3, h4, fun i z hz => ⟨g, 0, rfl, lt_of_heap h2, ?_⟩⟩
    have hi := (List.getElem?_eq_some_iff.1 hz).1
    rw [Nat.zero_add, World.ownsRow.cellAt ho i (by omega)]
    simp [u8s, hz]
theorem read_row {w W : World} {v : Value} {l : List UInt8} (h : BRel w W v l) : Calls Tryd.prog 14 #[v] W (ReadPost l W) := by
  obtain ⟨A, cap, rfl, h1, h2, h3⟩ := h.byat
  exact read_any h3 h1 h2
theorem raw_ok {L : List (Int × Int)} {N : List ByteArray} (h : errP L N = 0) : Raw L N := by
  obtain ⟨a1, a2, a3, a4⟩ := err0_is h
  exact ⟨by omega, by omega, a3, fun x hx => by obtain ⟨b1, b2, b3, b4⟩ := okI_bd (a4 x hx); omega⟩
/-- What was written is read. -/
theorem read_enc {L : List (Int × Int)} {N : List ByteArray} (h : errP L N = 0) : par (encP L N) = ⟨L, N, true⟩ ∧ errR (encP L N) = 0 := by
  have h1 := par_enc (raw_ok h) []
  rw [List.append_nil] at h1
  refine ⟨h1, ?_⟩
  unfold errR
  rw [h1]
  exact h
/-! ### The table -/
theorem ownDoor : ownKnob Tryd.prog.godebug = none := by kernel_rfl
def laidTab : List (String × DataW Unit) := [("math/bits.deBruijn32tab", Rows.laid_math_bits_deBruijn32tab), ("math/bits.deBruijn64tab", Rows.laid_math_bits_deBruijn64tab), ("internal/strconv.uint64pow10", Rows.laid_internal_strconv_uint64pow10)]
theorem tab_data : (Rows.laid_internal_strconv_uint64pow10 : DataW Unit) = Lib.tabData .u64 Lib.pow10Tab := rfl
theorem door_met (os : Os) (args : Array Value) : laidMetH Tryd.prog laidTab ((World.doorLaid Tryd.prog 400 os).forCall (fun _ _ => 0) ⟨#[], args, []⟩).memory :=
  laidMetH_of_parts3 (fuel := 8) (laidMet_of_run' 8 (by kernel_rfl) (by kernel_rfl)) (by kernel_rfl) (by kernel_rfl)
theorem tabTy : ∀ g, Tryd.prog.globalNamed "internal/strconv.uint64pow10" = some g → (Tryd.prog.globals[g]?).map (·.type) = some 84 := by
  intro g h
  have h1 : (Tryd.prog.globalNamed "internal/strconv.uint64pow10").bind (fun g => (Tryd.prog.globals[g]?).map (·.type)) = some 84 := by kernel_rfl
  rw [h] at h1
  exact h1
theorem of_laid {W : World} (h : laidMetH Tryd.prog laidTab W) : Tb W := by
  rw [MakeChecks.laidMetH_plain _ _ _ (by kernel_rfl)] at h
  obtain ⟨ps, ⟨g1, t1, cs1, fuel1, p1, q1, _, _, _, _, ⟨g2, t2, cs2, fuel2, p2, q2, _, _, _, _, ⟨g, t, cs, fuel, p, q, hg, ht, hvar, hd, _, _⟩, _⟩, _⟩, _⟩ := h
  have e := tabTy g hg
  rw [ht] at e
  injection e with e
  subst e
  rw [tab_data] at hd
  unfold Tb Lib.TabIs
  rw [hvar, ← Lib.cells_of_tab Tryd.underlying84 Tryd.underlying73 (by kernel_rfl) (by kernel_rfl) hd]
/-! ### The document's example -/
theorem pok_one {W : World} {g : Nat} (h : W.heap[g]? = some (.cells #[.int .i64 1, .int .i64 7] 41 (0, 0))) : POk W (some ⟨g, 0, none⟩) [(1, 7)] 1 none [] 0 := by
  obtain ⟨c0, c1, _, _⟩ := two_cells h
  refine ⟨Nat.le_refl _, by omega, Nat.le_refl _, by omega, (fun i x hx => ?_), (fun i s hs => by rw [List.getElem?_nil] at hs; cases hs), (fun s hs => by cases hs), (fun x hx => ?_)⟩
  · have hi := (List.getElem?_eq_some_iff.1 hx).1
    obtain rfl : i = 0 := by simp at hi; omega
    simp only [List.getElem?_cons_zero, Option.some.injEq] at hx
    subst hx
    exact ⟨g, 0, rfl, lt_of_heap h, c0, c1⟩
  · simp only [List.mem_singleton] at hx
    subst hx
    exact ⟨rfl, rfl⟩
theorem txt_one : (⟨(txt [(1, 7)] 1).toArray⟩ : ByteArray) = ⟨#[48, 32, 112, 117, 115, 104, 32, 55, 10]⟩ := by
  have h0 : digs 0 = [48] := by rw [digs_small (by omega)]; rfl
  have h7 : digs 7 = [55] := by rw [digs_small (by omega)]; rfl
  have hw : wd (1, 7) = ⟨#[112, 117, 115, 104, 32, 55]⟩ := by
    unfold wd
    have e1 : okI (1, 7) = true := by decide +kernel
    rw [e1, if_pos rfl]
    have e2 : (1 : Int) ≤ ms ((1 : Int), (7 : Int)).1.toNat := by decide +kernel
    rw [if_pos e2]
    have e3 : digs ((1 : Int), (7 : Int)).2.toNat = [55] := h7
    rw [e3]
    decide +kernel
  have e : txt [(1, 7)] 1 = [48, 32, 112, 117, 115, 104, 32, 55, 10] := by
    have := txt_succ (L := [(1, 7)]) (k := 0) (x := (1, 7)) rfl
    rw [h0, hw] at this
    rw [this]
    rfl
  rw [e]
set_option maxHeartbeats 4000000 in
theorem awake_any {W : World} (hT : Tb W) : Calls Tryd.prog 10 #[] W fun e W' => e = .returned (.bool true) ∧ Gw W W' := by
  have h0 : errP [] [] = 0 := by decide +kernel
  have BC := post_zero (bytes_any (POk.nil W)) h0
  simp only [List.length_nil] at BC
  obtain ⟨p0, r0⟩ := read_enc h0
  have RC : ∀ {w0 W : World} {v : Value}, BRel w0 W v (encP [] []) → Calls Tryd.prog 14 #[v] W fun e W' => ∃ C ca B cb, e = .returned (.tuple #[.agg #[.slice C 0 ca, .slice B 0 cb], .int .i64 0]) ∧ Gw W W' := fun h => by
    have := read_row h
    unfold ReadPost at this
    rw [r0, p0] at this
    simp only [if_true] at this
    exact this.mono fun e W' ⟨C, ca, B, cb, he, _, hg⟩ => ⟨C, ca, B, cb, he, hg⟩
  clear p0 r0
  have hx : (⟨(encP [] []).toArray⟩ : ByteArray) = ⟨#[88, 82, 0, 0]⟩ := rfl
  go_enter Tryd.func10, Tryd.ntmps10
  go_upto_region 3 with (first | (go_at_call 12; with_reducible refine BC.mono ?_; rintro e w1 ⟨v1, rfl, R1⟩) | (go_at_call 14; with_reducible refine (RC R1).mono ?_; rintro e w2 ⟨C, ca, B, cb, rfl, G2⟩))
  have GA := Gw.alloc w2 (.cells #[.slice C 0 ca, .slice B 0 cb] 25)
  have R3 := (R1.keep G2).keep GA
  have hcv := R3.back
  rw [hx] at hcv
  obtain ⟨c0, _, _, _⟩ := two_cells (heap_alloc_new w2 (.cells #[.slice C 0 ca, .slice B 0 cb] 25))
  have hT3 := hT.gw R3.gw
  have HG3 := Lib.hid R3.gw
  clear R1 R3 G2 GA BC RC hT
  generalize w2.alloc (.cells #[.slice C 0 ca, .slice B 0 cb] 25) = w3 at *
  generalize w2.heap.size = pb at *
  have GI := Gw.alloc w3 (.cells #[.int .i64 1, .int .i64 7] 41)
  have TC := text_any (pok_one (heap_alloc_new w3 (.cells #[.int .i64 1, .int .i64 7] 41))) (by simp) (hT3.gw GI)
  simp only [List.length_cons, List.length_nil, Nat.zero_add, txt_one] at TC
  have HGI := Lib.hid GI
  clear GI hT3
  go_wp2_with (go_at_call 19; with_reducible refine TC.mono ?_; rintro e w4 ⟨rfl, G4⟩)
  go_ret
  exact ⟨rfl, HG3.out.trans (HGI.out.trans G4)⟩
end Go.Proofs.YtcecmkelefhaaaaDoor
