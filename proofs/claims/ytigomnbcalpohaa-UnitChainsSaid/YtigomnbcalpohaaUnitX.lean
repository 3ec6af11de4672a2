/-
  The document's own answer for unit: differ, and Unit: the least truths at rest, or that there are none.
-/
import Derived.Test.YtigomnbcalpohaaUnitR
import Derived.Deep.LoopGhost
import Derived.Laws.Small
import Derived.Laws.Unary
namespace Go.Proofs.Ytigomnbcalpohaa
open Go.ChangeShapes Go.WideShapes Go.ChangeAt Go.RowKit
set_option linter.unusedVariables false

def Two (t c : List Int) : Prop := ∃ x ∈ c, ∃ y ∈ c, x ≠ y ∧ wo t x = 0 ∧ wo t y = 0
def DifPost (t c : List Int) (W : World) (e : Ending) (W' : World) : Prop := (∃ b : Bool, e = .returned (.bool b) ∧ (b = true ↔ Two t c)) ∧ W = W'
def isT (t : List Int) (y : Int) : Bool := decide (wo t y = 1)
/-- What a literal's number is in t, and how the walk comes to it. -/
theorem lit_at {n : Nat} {t : List Int} {l : Int} (ht : TV n t) (ok : LOk n l) (hn : n ≤ 65536) : ∃ (i : Nat) (x nl : Int), i < n ∧ i = at_ l ∧ t[i]? = some x ∧ IntKind.i64.wrap (-l) = nl ∧ max l nl = (i : Int) + 1 ∧ (x = 0 ↔ wo t l = 0) ∧ ((x == 1) == decide (0 < l)) = (if x = 0 then decide (l < 0) else isT t l) ∧ nl = -l := by
  have hx := wo_at ht ok
  have hi := at_lt ok
  refine ⟨at_ l, _, -l, hi, rfl, hx, wrap_in (by have := ok.2; omega) (by have := ok.2; omega), ?_, ?_, ?_, rfl⟩
  · unfold at_
    have := ok.1
    split <;> omega
  · unfold sg; split <;> omega
  · have h0 := ok.1
    rcases wo_cases ht l with e | e | e <;> unfold sg isT <;> rw [e] <;> by_cases hl : l < 0
    all_goals simp [hl]
    all_goals omega
set_option maxHeartbeats 1600000 in
theorem differ_any {n : Nat} {C T : Option Addr} {c t : List Int} {ccap tcap : Nat} (W : World) (hc : SeqAt (Value.int .i64) W C c) (hcl : c.length ≤ 9223372036854775807) (ht : SeqAt (Value.int .i64) W T t) (tv : TV n t) (ok : ∀ l ∈ c, LOk n l) (hn : n ≤ 65536) :
    Calls Try.prog 21 #[.slice C c.length ccap, .slice T t.length tcap] W (DifPost t c W) := by
  have HC := Lib.hid hc
  have HT := Lib.hid ht
  have TVH := Lib.hid tv
  have OK := Lib.hid ok
  have htl := tv.1
  clear hc ht tv ok
  go_enter Try.func21, Try.ntmps21
  go_wp2_with fail
  go_loop [5, 6] (fun v i => ∃ (k : Nat) (fs : Int), k ≤ c.length ∧ i = .int .i64 k ∧ v = .int .i64 fs ∧ Hid ((fs = 0 ∧ ∀ y ∈ c.take k, wo t y ≠ 0) ∨ (fs ≠ 0 ∧ fs ∈ c ∧ wo t fs = 0 ∧ ∀ y ∈ c.take k, wo t y = 0 → y = fs))) (fun _ i => c.length - (intOf i).toNat)
  case atStart => exact ⟨0, 0, by omega, rfl, rfl, .inl ⟨rfl, fun y hy => by simp at hy⟩⟩
  case round =>
    obtain ⟨k, fs, hk, rfl, rfl, G⟩ := hrel
    by_cases hlt : k < c.length
    · obtain ⟨l, hz⟩ : ∃ l, c[k]? = some l := ⟨_, List.getElem?_eq_getElem hlt⟩
      obtain ⟨a, rfl, hcl2⟩ := HC.out.get k l hz
      have hm := List.mem_of_getElem? hz
      have okl := OK.out l hm
      obtain ⟨i, x, nl, hi, -, hx, hw, hmx, h0, -, rfl⟩ := lit_at TVH.out okl hn
      obtain ⟨aT, rfl, hct⟩ := HT.out.get i x hx
      have hit : (i : Int) < (t.length : Int) := by omega
      have tk : ∀ y, y ∈ c.take (k + 1) ↔ y ∈ c.take k ∨ y = l := fun y => by
        rw [List.take_succ_eq_append_getElem hlt, (List.getElem?_eq_some_iff.1 hz).2]; simp
      by_cases hx0 : x = 0
      · have e1 : (x != 0) = false := by simpa using hx0
        have w0 := h0.1 hx0
        by_cases hf : fs = 0
        · have e2 : (fs == 0) = true := by simpa using hf
          have e3 : (l != l) = false := by simp
          have HE : Hid ((l = 0 ∧ ∀ y ∈ c.take (k + 1), wo t y ≠ 0) ∨ (l ≠ 0 ∧ l ∈ c ∧ wo t l = 0 ∧ ∀ y ∈ c.take (k + 1), wo t y = 0 → y = l)) := by
            refine .inr ⟨okl.1, hm, w0, fun y hy hy0 => ?_⟩
            rcases (tk y).1 hy with hy | hy
            · rcases G.out with ⟨_, h⟩ | ⟨h, _⟩
              · exact absurd hy0 (h y hy)
              · exact absurd hf h
            · exact hy
          clear hz hm okl hx h0 tk G hi w0
          go_wp2_with fail
          go_round
          case rel => exact ⟨k + 1, l, by omega, by go_num, rfl, HE.out⟩
          case measure => simp [intOf]; omega
        · have e2 : (fs == 0) = false := by simpa using hf
          by_cases hfl : l = fs
          · subst hfl
            have e3 : (l != l) = false := by simp
            have HE : Hid ((l = 0 ∧ ∀ y ∈ c.take (k + 1), wo t y ≠ 0) ∨ (l ≠ 0 ∧ l ∈ c ∧ wo t l = 0 ∧ ∀ y ∈ c.take (k + 1), wo t y = 0 → y = l)) := by
              refine .inr ⟨okl.1, hm, w0, fun y hy hy0 => ?_⟩
              rcases (tk y).1 hy with hy | hy
              · rcases G.out with ⟨h, _⟩ | ⟨_, _, _, h⟩
                · exact absurd h hf
                · exact h y hy hy0
              · exact hy
            clear hz hm okl hx h0 tk G hi w0
            go_wp2_with fail
            go_round
            case rel => exact ⟨k + 1, l, by omega, by go_num, rfl, HE.out⟩
            case measure => simp [intOf]; omega
          · have e3 : (l != fs) = true := by simpa using hfl
            have HE : Hid (Two t c) := by
              rcases G.out with ⟨h, _⟩ | ⟨_, h1, h2, _⟩
              · exact absurd h hf
              · exact ⟨l, hm, fs, h1, hfl, w0, h2⟩
            clear hz hm okl hx h0 tk G hi w0
            go_wp2_with fail
            go_ret
            exact ⟨⟨true, rfl, by simpa using HE.out⟩, rfl⟩
      · have e1 : (x != 0) = true := by simpa using hx0
        have w0 : wo t l ≠ 0 := fun e => hx0 (h0.2 e)
        have HE : Hid ((fs = 0 ∧ ∀ y ∈ c.take (k + 1), wo t y ≠ 0) ∨ (fs ≠ 0 ∧ fs ∈ c ∧ wo t fs = 0 ∧ ∀ y ∈ c.take (k + 1), wo t y = 0 → y = fs)) := by
          rcases G.out with ⟨h1, h2⟩ | ⟨h1, h2, h3, h4⟩
          · exact .inl ⟨h1, fun y hy => by rcases (tk y).1 hy with hy | rfl; exact h2 y hy; exact w0⟩
          · exact .inr ⟨h1, h2, h3, fun y hy hy0 => by rcases (tk y).1 hy with hy | rfl; exact h4 y hy hy0; exact absurd hy0 w0⟩
        clear hz hm okl hx h0 tk G hi w0
        go_wp2_with fail
        go_round
        case rel => exact ⟨k + 1, fs, by omega, by go_num, rfl, HE.out⟩
        case measure => simp [intOf]; omega
    · obtain rfl : c.length = k := by omega
      have HE : Hid (¬ Two t c) := by
        rintro ⟨x, hx, y, hy, hne, hx0, hy0⟩
        have := G.out
        rw [List.take_length] at this
        rcases this with ⟨_, h⟩ | ⟨_, _, _, h⟩
        · exact h x hx hx0
        · exact hne ((h x hx hx0).trans (h y hy hy0).symm)
      clear G
      go_wp2_with fail
      go_ret
      exact ⟨⟨false, rfl, by simpa using HE.out⟩, rfl⟩
theorem LRel.at {w wr : World} {e : TypeId} {A : Option Addr} {n cap : Nat} {l : List Value} (h : LRel w wr e (.slice A n cap) l) {i : Nat} {u : Value} (hu : l[i]? = some u) : ∃ g, A = some ⟨g, 0, none⟩ ∧ w.heap.size ≤ g ∧ wr.cell? ⟨g, i, none⟩ = some u ∧ wr.frozen? ⟨g, i, none⟩ = false ∧ n ≤ cap ∧ cap ≤ 9223372036854775807 ∧
    ∀ x : Value, LRel w (wr.setCell ⟨g, i, none⟩ x) e (.slice A n cap) (l.set i x) := by
  have hi := (List.getElem?_eq_some_iff.1 hu).1
  rcases h.own.2 with ⟨h1, h2⟩ | ⟨g, c, cur, h1, hb, hg, h2, h3, h4, h5⟩
  · omega
  · injection h1 with h1 h6 h7
    subst h1; subst h7
    rw [Nat.mul_one] at h4 h5
    refine ⟨g, rfl, hb, ?_, ?_, by omega, by unfold maxLen at h3; omega, fun x => ⟨⟨by simp, .inr ⟨g, cap, cur.setIfInBounds i x, by rw [List.length_set, ← h6], hb, ?_, by rw [List.length_set]; exact h2, h3, by simp; exact h4, ?_⟩⟩, h.below.setCell hb _⟩⟩
    · unfold World.cell?; rw [hg]
      rw [← h5, List.getElem?_take_of_lt hi] at hu
      simpa using hu
    · unfold World.frozen?; rw [hg]; simp
    · simp only [World.setCell, Array.getElem?_modify, hg, if_true]; simp
    · rw [List.length_set, Nat.mul_one, Array.toList_setIfInBounds, List.take_set, h5]
end Go.Proofs.Ytigomnbcalpohaa
