/-
  May of package clause, FormulaMay of the document's own answer, and the law's own same and Small.
-/
import Derived.Test.YtigomnbcalpohaaClauB
namespace Go.Proofs.Ytigomnbcalpohaa
open Go.ChangeShapes Go.WideShapes Go.ChangeAt Go.RowKit
set_option linter.unusedVariables false

def okF (n : Int) (f : List (List Int)) : Bool := f.all fun c => c.all (okL n)
theorem may_of {n : Int} {f : List (List Int)} (h0 : 0 ≤ n) (h1 : n ≤ 65536) : mayM n f = okF n f := by unfold mayM okF; simp [h0, h1]
theorem may_out {n : Int} {f : List (List Int)} (h : ¬ (0 ≤ n ∧ n ≤ 65536)) : mayM n f = false := by unfold mayM; rw [decide_eq_false h]; rfl
theorem all_take {p : Int → Bool} {c : List Int} {k : Nat} {l : Int} (h : c[k]? = some l) : (c.take (k + 1)).all p = ((c.take k).all p && p l) := by
  have hk := (List.getElem?_eq_some_iff.1 h).1
  rw [List.take_succ_eq_append_getElem hk, List.all_append, (List.getElem?_eq_some_iff.1 h).2]; simp
theorem okF_take {n : Int} {f : List (List Int)} {k : Nat} {c : List Int} (h : f[k]? = some c) : okF n (f.take (k + 1)) = (okF n (f.take k) && c.all (okL n)) := by
  have hk := (List.getElem?_eq_some_iff.1 h).1
  unfold okF
  rw [List.take_succ_eq_append_getElem hk, List.all_append, (List.getElem?_eq_some_iff.1 h).2]; simp
theorem okF_no {n : Int} {f : List (List Int)} {k j : Nat} {c : List Int} {l : Int} (h : f[k]? = some c) (g : c[j]? = some l) (hl : okL n l = false) : okF n f = false := by
  unfold okF; rw [List.all_eq_false]
  refine ⟨c, List.mem_of_getElem? h, ?_⟩
  rw [Bool.not_eq_true, List.all_eq_false]
  exact ⟨l, List.mem_of_getElem? g, by rw [hl]; simp⟩
set_option maxHeartbeats 1600000 in
theorem may_any (n : Int) (A : Option Addr) (f : List (List Int)) (fcap : Nat) (w : World) (hn : Wf n) (hf : FormAt w A f) (hl : f.length ≤ 9223372036854775807) :
    Calls Try.prog 16 #[.int .i64 n, .slice A f.length fcap] w fun e w' => e = .returned (.bool (mayM n f)) ∧ w = w' := by
  have HF := Lib.hid hf
  clear hf
  by_cases h0 : n < 0
  · have HE := Lib.hid (may_out (f := f) (n := n) (by omega))
    go_enter Try.func16, Try.ntmps16
    go_wp2_with fail
    go_ret
    exact ⟨by rw [HE.out]; (first | done | rfl), rfl⟩
  by_cases h1 : 65536 < n
  · have h0' : 0 ≤ n := by omega
    have HE := Lib.hid (may_out (f := f) (n := n) (by omega))
    clear h0
    go_enter Try.func16, Try.ntmps16
    go_wp2_with fail
    go_ret
    exact ⟨by rw [HE.out]; (first | done | rfl), rfl⟩
  have h2 : 0 ≤ n := by omega
  have h3 : n ≤ 65536 := by omega
  clear h0 h1 hn
  rw [may_of h2 h3]
  go_enter Try.func16, Try.ntmps16
  go_wp2_with fail
  go_loop [18] (fun i => ∃ k : Nat, k ≤ f.length ∧ i = .int .i64 k ∧ Hid (okF n (f.take k) = true)) (fun i => f.length - (intOf i).toNat)
  case atStart => exact ⟨0, by omega, rfl, by simp [Hid, okF]⟩
  case round =>
    obtain ⟨k, hk, rfl, H⟩ := hrel
    by_cases hlt : k < f.length
    · obtain ⟨c, hz⟩ : ∃ c, f[k]? = some c := ⟨_, List.getElem?_eq_getElem hlt⟩
      obtain ⟨a, C, ccap, rfl, hcell, hcs, hcl⟩ := HF.out.get k c hz
      have HS := Lib.hid hcs
      have HW := Lib.hid (HF.out.wf c (List.mem_of_getElem? hz))
      have HZ := Lib.hid hz
      clear hcs hz
      go_wp2_with fail
      go_loop [24] (fun i => ∃ j : Nat, j ≤ c.length ∧ i = .int .i64 j ∧ Hid ((c.take j).all (okL n) = true)) (fun i => c.length - (intOf i).toNat)
      case atStart => exact ⟨0, by omega, rfl, by simp [Hid]⟩
      case round =>
        obtain ⟨j, hj, rfl, G⟩ := hrel
        by_cases hjl : j < c.length
        · obtain ⟨l, hz⟩ : ∃ l, c[j]? = some l := ⟨_, List.getElem?_eq_getElem hjl⟩
          obtain ⟨aC, rfl, hcc⟩ := HS.out.get j l hz
          have ch := number_any l w (HW.out l (List.mem_of_getElem? hz))
          have HL := Lib.hid (show okL n l = decide (1 ≤ numb l ∧ numb l ≤ n) from rfl)
          have GZ := Lib.hid hz
          clear hz
          generalize numb l = v at ch HL
          by_cases v1 : v < 1
          · have HE := Lib.hid (okF_no HZ.out GZ.out (by rw [HL.out]; exact decide_eq_false (by omega)))
            go_wp2_with (go_at_call 23; ((with_reducible refine ch.mono ?_); rintro e w' ⟨rfl, rfl⟩))
            go_ret
            exact ⟨by rw [HE.out]; (first | done | rfl), rfl⟩
          · have v1' : 1 ≤ v := by omega
            clear v1
            by_cases v2 : n < v
            · have HE := Lib.hid (okF_no HZ.out GZ.out (by rw [HL.out]; exact decide_eq_false (by omega)))
              go_wp2_with (go_at_call 23; ((with_reducible refine ch.mono ?_); rintro e w' ⟨rfl, rfl⟩))
              go_ret
              exact ⟨by rw [HE.out]; (first | done | rfl), rfl⟩
            · have v2' : v ≤ n := by omega
              have HE := Lib.hid (show (c.take (j + 1)).all (okL n) = true by rw [all_take GZ.out, G.out, HL.out, decide_eq_true ⟨v1', v2'⟩]; rfl)
              clear v2
              go_wp2_with (go_at_call 23; ((with_reducible refine ch.mono ?_); rintro e w' ⟨rfl, rfl⟩))
              go_round
              case rel => exact ⟨j + 1, by omega, by go_num, HE.out⟩
              case measure => simp [intOf]; omega
        · obtain rfl : j = c.length := by omega
          have HE := Lib.hid (show okF n (f.take (k + 1)) = true by rw [okF_take HZ.out, H.out]; have := G.out; rw [List.take_length] at this; rw [this]; rfl)
          clear G
          go_wp2_with fail
          go_round
          case rel => exact ⟨k + 1, by omega, by go_num, HE.out⟩
          case measure => simp [intOf]; omega
    · obtain rfl : k = f.length := by omega
      have HE := Lib.hid (show okF n f = true by have := H.out; rw [List.take_length] at this; exact this)
      clear H
      go_wp2_with fail
      go_ret
      exact ⟨by rw [HE.out]; (first | done | rfl), rfl⟩
set_option maxHeartbeats 1600000 in
theorem rmay_any (n : Int) (A : Option Addr) (f : List (List Int)) (fcap : Nat) (w : World) (hn : Wf n) (hf : FormAt w A f) (hl : f.length ≤ 9223372036854775807) :
    Calls Try.prog 11 #[.int .i64 n, .slice A f.length fcap] w fun e w' => e = .returned (.bool (mayM n f)) ∧ w = w' := by
  have HF := Lib.hid hf
  clear hf
  by_cases h0 : n < 0
  · have HE := Lib.hid (may_out (f := f) (n := n) (by omega))
    go_enter Try.func11, Try.ntmps11
    go_wp2_with fail
    go_ret
    exact ⟨by rw [HE.out]; (first | done | rfl), rfl⟩
  by_cases h1 : 65536 < n
  · have h0' : 0 ≤ n := by omega
    have HE := Lib.hid (may_out (f := f) (n := n) (by omega))
    clear h0
    go_enter Try.func11, Try.ntmps11
    go_wp2_with fail
    go_ret
    exact ⟨by rw [HE.out]; (first | done | rfl), rfl⟩
  have h2 : 0 ≤ n := by omega
  have h3 : n ≤ 65536 := by omega
  clear h0 h1 hn
  rw [may_of h2 h3]
  go_enter Try.func11, Try.ntmps11
  go_wp2_with fail
  go_loop [5] (fun i => ∃ k : Nat, k ≤ f.length ∧ i = .int .i64 k ∧ Hid (okF n (f.take k) = true)) (fun i => f.length - (intOf i).toNat)
  case atStart => exact ⟨0, by omega, rfl, by simp [Hid, okF]⟩
  case round =>
    obtain ⟨k, hk, rfl, H⟩ := hrel
    by_cases hlt : k < f.length
    · obtain ⟨c, hz⟩ : ∃ c, f[k]? = some c := ⟨_, List.getElem?_eq_getElem hlt⟩
      obtain ⟨a, C, ccap, rfl, hcell, hcs, hcl⟩ := HF.out.get k c hz
      have HS := Lib.hid hcs
      have HW := Lib.hid (HF.out.wf c (List.mem_of_getElem? hz))
      have HZ := Lib.hid hz
      clear hcs hz
      go_wp2_with fail
      go_loop [6] (fun i => ∃ j : Nat, j ≤ c.length ∧ i = .int .i64 j ∧ Hid ((c.take j).all (okL n) = true)) (fun i => c.length - (intOf i).toNat)
      case atStart => exact ⟨0, by omega, rfl, by simp [Hid]⟩
      case round =>
        obtain ⟨j, hj, rfl, G⟩ := hrel
        by_cases hjl : j < c.length
        · obtain ⟨l, hz⟩ : ∃ l, c[j]? = some l := ⟨_, List.getElem?_eq_getElem hjl⟩
          obtain ⟨aC, rfl, hcc⟩ := HS.out.get j l hz
          have hwl := HW.out l (List.mem_of_getElem? hz)
          have HL := Lib.hid (okL_ref h2 h3 hwl)
          have GZ := Lib.hid hz
          clear hz hwl
          by_cases l0 : l = 0
          · have HE := Lib.hid (okF_no HZ.out GZ.out (by have := HL.out; cases hh : okL n l <;> simp_all))
            subst l0
            go_wp2_with fail
            go_ret
            exact ⟨by rw [HE.out]; (first | done | rfl), rfl⟩
          · have l0' : (l == 0) = false := by simpa using l0
            by_cases v1 : n < l
            · have HE := Lib.hid (okF_no HZ.out GZ.out (by have := HL.out; cases hh : okL n l <;> simp_all))
              clear l0
              go_wp2_with fail
              go_ret
              exact ⟨by rw [HE.out]; (first | done | rfl), rfl⟩
            · have v1' : l ≤ n := by omega
              by_cases v2 : l < -n
              · have HE := Lib.hid (okF_no HZ.out GZ.out (by have := HL.out; cases hh : okL n l <;> simp_all))
                clear l0 v1
                go_wp2_with fail
                go_ret
                exact ⟨by rw [HE.out]; (first | done | rfl), rfl⟩
              · have v2' : -n ≤ l := by omega
                have HE := Lib.hid (show (c.take (j + 1)).all (okL n) = true by rw [all_take GZ.out, G.out, HL.out.2 ⟨l0, v1, v2⟩]; rfl)
                clear v2 v1 l0
                go_wp2_with fail
                go_round
                case rel => exact ⟨j + 1, by omega, by go_num, HE.out⟩
                case measure => simp [intOf]; omega
        · obtain rfl : j = c.length := by omega
          have HE := Lib.hid (show okF n (f.take (k + 1)) = true by rw [okF_take HZ.out, H.out]; have := G.out; rw [List.take_length] at this; rw [this]; rfl)
          clear G
          go_wp2_with fail
          go_round
          case rel => exact ⟨k + 1, by omega, by go_num, HE.out⟩
          case measure => simp [intOf]; omega
    · obtain rfl : k = f.length := by omega
      have HE := Lib.hid (show okF n f = true by have := H.out; rw [List.take_length] at this; exact this)
      clear H
      go_wp2_with fail
      go_ret
      exact ⟨by rw [HE.out]; (first | done | rfl), rfl⟩
/-! ### The law's own -/
theorem take_ne {a b : List Int} {k : Nat} {x y : Int} (hx : a[k]? = some x) (hy : b[k]? = some y) (h : x ≠ y) : decide (a = b) = false := by
  refine decide_eq_false fun e => ?_
  subst e; rw [hx] at hy; injection hy with hy; exact h hy
theorem take_eq {a b : List Int} (hl : a.length = b.length) {k : Nat} (hk : k = a.length) (h : a.take k = b.take k) : decide (a = b) = true := by
  refine decide_eq_true ?_
  subst hk
  rwa [List.take_length, List.take_of_length_le (by omega)] at h
theorem take_more {a b : List Int} {k : Nat} {x : Int} (hx : a[k]? = some x) (hy : b[k]? = some x) (h : a.take k = b.take k) : a.take (k + 1) = b.take (k + 1) := by
  have ha := (List.getElem?_eq_some_iff.1 hx)
  have hb := (List.getElem?_eq_some_iff.1 hy)
  obtain ⟨ha, ha'⟩ := ha
  obtain ⟨hb, hb'⟩ := hb
  rw [List.take_succ_eq_append_getElem ha, List.take_succ_eq_append_getElem hb, h, ha', hb']
set_option maxHeartbeats 1600000 in
theorem same_any (A B : Option Addr) (a b : List Int) (acap bcap : Nat) (w : World) (ha : SeqAt (Value.int .i64) w A a) (hb : SeqAt (Value.int .i64) w B b) (la : a.length ≤ 9223372036854775807) (lb : b.length ≤ 9223372036854775807) :
    Calls Try.prog 14 #[.slice A a.length acap, .slice B b.length bcap] w fun e w' => e = .returned (.bool (decide (a = b))) ∧ ∃ q, w' = w.drewN q := by
  have HA := Lib.hid ha
  have HB := Lib.hid hb
  clear ha hb
  by_cases hl : a.length = b.length
  · have HL := Lib.hid hl
    rw [← hl]
    clear hl lb
    go_enter Try.func14, Try.ntmps14
    go_wp2_with fail
    go_loopw [5] (fun i wr => ∃ k q : Nat, k ≤ a.length ∧ i = .int .i64 k ∧ Hid (wr = w.drewN q) ∧ Hid (a.take k = b.take k)) (fun i _ => a.length - (intOf i).toNat)
    case atStart => exact ⟨0, 0, by omega, rfl, rfl, rfl⟩
    case round =>
      obtain ⟨k, q, hk, rfl, G, H⟩ := hrel
      by_cases hlt : k < a.length
      · obtain ⟨x, hx⟩ : ∃ x, a[k]? = some x := ⟨_, List.getElem?_eq_getElem hlt⟩
        obtain ⟨y, hy⟩ : ∃ y, b[k]? = some y := ⟨_, List.getElem?_eq_getElem (by have := HL.out; omega)⟩
        obtain ⟨aA, rfl, hca⟩ := HA.out.get k x hx
        obtain ⟨aB, rfl, hcb⟩ := HB.out.get k y hy
        have hca' : wr.cell? (aA.add k) = some (.int .i64 x) := by rw [G.out]; exact hca
        have hcb' : wr.cell? (aB.add k) = some (.int .i64 y) := by rw [G.out]; exact hcb
        have hki : (k : Int) < (a.length : Int) := by omega
        clear hca hcb
        by_cases e : x = y
        · subst e
          have HE := Lib.hid (take_more hx hy H.out)
          clear hx hy
          go_wp2_with fail
          go_quiet (fail)
          go_wp2_with fail
          go_roundw
          case rel => exact ⟨k + 1, q + nq, by omega, by go_num, (show _ = _ from by rw [G.out, World.drewN_drewN]), HE.out⟩
          case measure => simp [intOf]; omega
        · have HE := Lib.hid (take_ne hx hy e)
          have e' : (x == y) = false := by simpa using e
          have e2 : (x != y) = true := by simpa using e
          clear hx hy e
          go_wp2_with fail
          go_quiet (fail)
          go_wp2_with fail
          go_ret
          exact ⟨by rw [HE.out]; (first | done | rfl), q + nq, by rw [G.out, World.drewN_drewN]⟩
      · have HE := Lib.hid (take_eq HL.out (show k = a.length by omega) H.out)
        clear H
        go_wp2_with fail
        go_ret
        exact ⟨by rw [HE.out]; (first | done | rfl), q, G.out⟩
  · have HE := Lib.hid (show decide (a = b) = false from decide_eq_false fun e => hl (by rw [e]))
    have e1 : ((a.length : Int) == (b.length : Int)) = false := by rw [beq_eq_false_iff_ne]; omega
    have e2 : ((a.length : Int) != (b.length : Int)) = true := by rw [bne_iff_ne]; omega
    clear hl
    go_enter Try.func14, Try.ntmps14
    go_wp2_with fail
    go_ret
    exact ⟨by rw [HE.out]; (first | done | rfl), 0, rfl⟩
def SmallPost (w : World) (e : Ending) (w' : World) : Prop := ∃ b : Bool, e = .returned (.bool b) ∧ w = w'
set_option maxHeartbeats 1600000 in
theorem small_any (A : Option Addr) (f : List (List Int)) (fcap : Nat) (most : Int) (w : World) (hf : FormAt w A f) (hl : f.length ≤ 9223372036854775807) :
    Calls Try.prog 10 #[.slice A f.length fcap, .int .i64 most] w (SmallPost w) := by
  have HF := Lib.hid hf
  clear hf
  go_enter Try.func10, Try.ntmps10
  go_wp2_with fail
  go_loop [5, 6] (fun n i => ∃ (k : Nat) (s : Int), k ≤ f.length ∧ i = .int .i64 k ∧ n = .int .i64 s) (fun _ i => f.length - (intOf i).toNat)
  case atStart => exact ⟨0, 0, by omega, rfl, rfl⟩
  case round =>
    obtain ⟨k, s, hk, rfl, rfl⟩ := hrel
    by_cases hlt : k < f.length
    · obtain ⟨c, hz⟩ : ∃ c, f[k]? = some c := ⟨_, List.getElem?_eq_getElem hlt⟩
      obtain ⟨a, C, ccap, rfl, hcell, hcs, hcl⟩ := HF.out.get k c hz
      clear hcs hz
      go_wp2_with fail
      go_round
      case rel => exact ⟨k + 1, _, by omega, by go_num, rfl⟩
      case measure => simp [intOf]; omega
    · obtain rfl : k = f.length := by omega
      go_wp2_with fail
      go_ret
      exact ⟨_, rfl, rfl⟩
end Go.Proofs.Ytigomnbcalpohaa
