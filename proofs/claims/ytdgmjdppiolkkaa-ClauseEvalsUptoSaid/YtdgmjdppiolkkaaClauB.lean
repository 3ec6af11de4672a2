/-
  May and Eval of package clause, FormulaMay and Eval of the document's own answer, and the law's own small functions: what each answers at every formula.
-/
import Derived.Test.YtdgmjdppiolkkaaClauA
namespace Go.Proofs.Ytdgmjdppiolkkaa
open Go.ChangeShapes Go.WideShapes Go.ChangeAt Go.RowKit
set_option linter.unusedVariables false

/-! ### The library's ContainsFunc at Eval's closure -/
theorem closure (l : Int) (b : Nat) (A : Option Addr) (m : List Bool) (cap : Nat) (W : World) (hw : Wf l) (hb : W.cell? ⟨b, 0, none⟩ = some (.slice A m.length cap)) (hm : SeqAt Value.bool W A m) (hl : m.length ≤ 9223372036854775807) :
    Calls Try.prog 21 #[.int .i64 l, .pointer (some ⟨b, 0, none⟩)] W fun e W' => e = .returned (.bool (holdsM m l)) ∧ W = W' := by
  have c := holds_any l A m cap W hw hm hl
  clear hm hw
  generalize holdsM m l = r at c ⊢
  go_enter Try.func21, Try.ntmps21
  go_wp2_with (go_at_call 22; ((with_reducible refine c.mono ?_); rintro e w' ⟨rfl, rfl⟩))
  go_ret
  exact ⟨rfl, rfl⟩
def IdxPost (r : Bool) (w : World) (e : Ending) (w' : World) : Prop := ∃ k : Int, e = .returned (.int .i64 k) ∧ decide (0 ≤ k) = r ∧ w = w'
theorem any_take {p : Int → Bool} {c : List Int} {k : Nat} {l : Int} (h : c[k]? = some l) : (c.take (k + 1)).any p = ((c.take k).any p || p l) := by
  have hk := (List.getElem?_eq_some_iff.1 h).1
  rw [List.take_succ_eq_append_getElem hk, List.any_append, (List.getElem?_eq_some_iff.1 h).2]; simp
theorem any_of {p : Int → Bool} {c : List Int} {k : Nat} {l : Int} (h : c[k]? = some l) (hp : p l = true) : c.any p = true :=
  List.any_eq_true.2 ⟨l, List.mem_of_getElem? h, hp⟩
set_option maxHeartbeats 800000 in
theorem index_any (b : Nat) (A : Option Addr) (m : List Bool) (cap : Nat) (B : Option Addr) (c : List Int) (ccap : Nat) (W : World) (hb : W.cell? ⟨b, 0, none⟩ = some (.slice A m.length cap)) (hm : SeqAt Value.bool W A m) (hl : m.length ≤ 9223372036854775807)
    (hc : SeqAt (Value.int .i64) W B c) (hw : ∀ l ∈ c, Wf l) (hn : c.length ≤ 9223372036854775807) :
    Calls Try.prog 30 #[.slice B c.length ccap, .func (.func 21) #[] #[.pointer (some ⟨b, 0, none⟩)]] W (IdxPost (evalC m c) W) := by
  have HM := Lib.hid hm
  have HC := Lib.hid hc
  have HW := Lib.hid hw
  have K := Lib.hid (fun l hl' => closure l b A m cap W hl' hb hm hl)
  clear hm hc hw hb
  go_enter Try.func30, Try.ntmps30
  go_wp2_with fail
  go_loop [8] (fun i => ∃ k : Nat, k ≤ c.length ∧ i = .int .i64 k ∧ Hid ((c.take k).any (holdsM m) = false)) (fun i => c.length - (intOf i).toNat)
  case atStart => exact ⟨0, by omega, rfl, by simp [Hid]⟩
  case round =>
    obtain ⟨k, hk, rfl, H⟩ := hrel
    by_cases hlt : k < c.length
    · obtain ⟨l, hz⟩ : ∃ l, c[k]? = some l := ⟨_, List.getElem?_eq_getElem hlt⟩
      obtain ⟨a, rfl, hcell⟩ := HC.out.get k l hz
      have cl := K.out l (HW.out l (List.mem_of_getElem? hz))
      cases hr : holdsM m l with
      | true =>
        have HE := Lib.hid (show evalC m c = true from any_of hz hr)
        rw [hr] at cl
        clear hz hr
        go_wp2_with (go_at_call 21; ((with_reducible refine cl.mono ?_); rintro e w' ⟨rfl, rfl⟩))
        go_ret
        exact ⟨_, rfl, by rw [HE.out]; simp, rfl⟩
      | false =>
        have HE := Lib.hid (show (c.take (k + 1)).any (holdsM m) = false by rw [any_take hz, H.out, hr]; rfl)
        rw [hr] at cl
        clear hz hr
        go_wp2_with (go_at_call 21; ((with_reducible refine cl.mono ?_); rintro e w' ⟨rfl, rfl⟩))
        go_round
        case rel => exact ⟨k + 1, by omega, by go_num, HE.out⟩
        case measure => simp [intOf]; omega
    · obtain rfl : k = c.length := by omega
      have HE := Lib.hid (show evalC m c = false by have := H.out; rw [List.take_length] at this; exact this)
      clear H
      go_wp2_with fail
      go_ret
      exact ⟨_, rfl, by rw [HE.out]; rfl, rfl⟩
theorem contains_any (b : Nat) (A : Option Addr) (m : List Bool) (cap : Nat) (B : Option Addr) (c : List Int) (ccap : Nat) (W : World) (hb : W.cell? ⟨b, 0, none⟩ = some (.slice A m.length cap)) (hm : SeqAt Value.bool W A m) (hl : m.length ≤ 9223372036854775807)
    (hc : SeqAt (Value.int .i64) W B c) (hw : ∀ l ∈ c, Wf l) (hn : c.length ≤ 9223372036854775807) :
    Calls Try.prog 20 #[.slice B c.length ccap, .func (.func 21) #[] #[.pointer (some ⟨b, 0, none⟩)]] W fun e W' => e = .returned (.bool (evalC m c)) ∧ W = W' := by
  have K := index_any b A m cap B c ccap W hb hm hl hc hw hn
  clear hm hc hw hb
  generalize evalC m c = r at K ⊢
  go_enter Try.func20, Try.ntmps20
  go_wp2_with (go_at_call 30; ((with_reducible refine K.mono ?_); rintro e w' ⟨k, rfl, hr, rfl⟩))
  go_ret
  exact ⟨by first | rfl | exact ret_bool hr, rfl⟩
/-! ### Eval -/
theorem eval_take {m : List Bool} {f : List (List Int)} {k : Nat} {c : List Int} (h : f[k]? = some c) : evalM m (f.take (k + 1)) = (evalM m (f.take k) && evalC m c) := by
  have hk := (List.getElem?_eq_some_iff.1 h).1
  unfold evalM
  rw [List.take_succ_eq_append_getElem hk, List.all_append, (List.getElem?_eq_some_iff.1 h).2]; simp
theorem eval_no {m : List Bool} {f : List (List Int)} {k : Nat} {c : List Int} (h : f[k]? = some c) (hp : evalC m c = false) : evalM m f = false := by
  unfold evalM; rw [List.all_eq_false]; exact ⟨c, List.mem_of_getElem? h, by simp [hp]⟩
set_option maxHeartbeats 800000 in
theorem eval_any (A : Option Addr) (f : List (List Int)) (fcap : Nat) (B : Option Addr) (m : List Bool) (cap : Nat) (w : World) (hf : FormAt w A f) (hn : f.length ≤ 9223372036854775807) (hm : SeqAt Value.bool w B m) (hl : m.length ≤ 9223372036854775807) :
    Calls Try.prog 13 #[.slice A f.length fcap, .slice B m.length cap] w fun e w' => e = .returned (.bool (evalM m f)) ∧ Below w.heap.size w w' := by
  have hal : Below w.heap.size w (w.alloc (.cells #[.slice B m.length cap] 23)) := (Below.refl _ _).alloc (Nat.le_refl _) _
  have HB := Lib.hid hal
  have HF := Lib.hid (hf.keep hal)
  have HM := Lib.hid (hm.keep hal)
  have HC := Lib.hid (show (w.alloc (.cells #[.slice B m.length cap] 23)).cell? ⟨w.heap.size, 0, none⟩ = some (.slice B m.length cap) from World.cell?_alloc_new _ _ _ _)
  clear hf hm hal
  have hmf : ∀ (fn : Fn) (first cap : Array Value) (w : World), (Instr.makeFunc fn first cap).run Try.prog w = .ok (.func fn first cap) w := fun _ _ _ _ => rfl
  go_enter Try.func13, Try.ntmps13
  go_wp2_with fail
  go_loop [9] (fun i => ∃ k : Nat, k ≤ f.length ∧ i = .int .i64 k ∧ Hid (evalM m (f.take k) = true)) (fun i => f.length - (intOf i).toNat)
  case atStart => exact ⟨0, by omega, rfl, by simp [Hid, evalM]⟩
  case round =>
    obtain ⟨k, hk, rfl, H⟩ := hrel
    by_cases hlt : k < f.length
    · obtain ⟨c, hz⟩ : ∃ c, f[k]? = some c := ⟨_, List.getElem?_eq_getElem hlt⟩
      obtain ⟨a, C, ccap, rfl, hcell, hcs, hcl⟩ := HF.out.get k c hz
      have cl := contains_any w.heap.size B m cap C c ccap _ HC.out HM.out hl hcs (HF.out.wf c (List.mem_of_getElem? hz)) hcl
      clear hcs
      cases hr : evalC m c with
      | true =>
        have HE := Lib.hid (show evalM m (f.take (k + 1)) = true by rw [eval_take hz, H.out, hr]; rfl)
        rw [hr] at cl
        clear hz hr
        go_wp2_with (go_at_call 20; ((with_reducible refine cl.mono ?_); rintro e w' ⟨rfl, rfl⟩))
        go_round
        case rel => exact ⟨k + 1, by omega, by go_num, HE.out⟩
        case measure => simp [intOf]; omega
      | false =>
        have HE := Lib.hid (eval_no hz hr)
        rw [hr] at cl
        clear hz hr
        go_wp2_with (go_at_call 20; ((with_reducible refine cl.mono ?_); rintro e w' ⟨rfl, rfl⟩))
        go_ret
        exact ⟨by rw [HE.out]; (first | done | rfl), HB.out⟩
    · obtain rfl : k = f.length := by omega
      have HE := Lib.hid (show evalM m f = true by have := H.out; rw [List.take_length] at this; exact this)
      clear H
      go_wp2_with fail
      go_ret
      exact ⟨by rw [HE.out]; (first | done | rfl), HB.out⟩
set_option maxHeartbeats 800000 in
theorem reval_any (A : Option Addr) (f : List (List Int)) (fcap : Nat) (B : Option Addr) (m : List Bool) (cap : Nat) (w : World) (hf : FormAt w A f) (hn : f.length ≤ 9223372036854775807) (hm : SeqAt Value.bool w B m) (hl : m.length ≤ 9223372036854775807) :
    Calls Try.prog 14 #[.slice A f.length fcap, .slice B m.length cap] w fun e w' => e = .returned (.bool (evalM m f)) ∧ w = w' := by
  have HF := Lib.hid hf
  have HM := Lib.hid hm
  clear hf hm
  go_enter Try.func14, Try.ntmps14
  go_wp2_with fail
  go_loop [5] (fun i => ∃ k : Nat, k ≤ f.length ∧ i = .int .i64 k ∧ Hid (evalM m (f.take k) = true)) (fun i => f.length - (intOf i).toNat)
  case atStart => exact ⟨0, by omega, rfl, by simp [Hid, evalM]⟩
  case round =>
    obtain ⟨k, hk, rfl, H⟩ := hrel
    by_cases hlt : k < f.length
    · obtain ⟨c, hz⟩ : ∃ c, f[k]? = some c := ⟨_, List.getElem?_eq_getElem hlt⟩
      obtain ⟨a, C, ccap, rfl, hcell, hcs, hcl⟩ := HF.out.get k c hz
      have HS := Lib.hid hcs
      have HW := Lib.hid (HF.out.wf c (List.mem_of_getElem? hz))
      have HZ := Lib.hid hz
      clear hcs hz
      go_wp2_with fail
      go_loop [6, 7] (fun o i => ∃ j : Nat, j ≤ c.length ∧ i = .int .i64 j ∧ o = .bool ((c.take j).any (holdsM m))) (fun o i => c.length - (intOf i).toNat)
      case atStart => exact ⟨0, by omega, rfl, rfl⟩
      case round =>
        obtain ⟨j, hj, rfl, rfl⟩ := hrel
        by_cases hjl : j < c.length
        · obtain ⟨l, hz⟩ : ∃ l, c[j]? = some l := ⟨_, List.getElem?_eq_getElem hjl⟩
          obtain ⟨aC, rfl, hcc⟩ := HS.out.get j l hz
          have ch := rholds_any l B m cap w (HW.out l (List.mem_of_getElem? hz)) HM.out hl
          have HE := Lib.hid (any_take (p := holdsM m) hz)
          clear hz
          cases ho : (c.take j).any (holdsM m) with
          | true =>
            rw [ho] at HE
            clear ho ch
            go_wp2_with fail
            go_round
            case rel => exact ⟨j + 1, by omega, by go_num, by rw [HE.out]; rfl⟩
            case measure => simp [intOf]; omega
          | false =>
            rw [ho] at HE
            clear ho
            generalize holdsM m l = r at ch HE
            go_wp2_with (go_at_call 23; ((with_reducible refine ch.mono ?_); rintro e w' ⟨rfl, rfl⟩))
            go_round
            case rel => exact ⟨j + 1, by omega, by go_num, by rw [HE.out]; rfl⟩
            case measure => simp [intOf]; omega
        · obtain rfl : j = c.length := by omega
          have e : (c.take c.length).any (holdsM m) = evalC m c := by rw [List.take_length]; rfl
          rw [e]
          clear e
          cases hr : evalC m c with
          | true =>
            have HE := Lib.hid (show evalM m (f.take (k + 1)) = true by rw [eval_take HZ.out, H.out, hr]; rfl)
            clear hr
            go_wp2_with fail
            go_round
            case rel => exact ⟨k + 1, by omega, by go_num, HE.out⟩
            case measure => simp [intOf]; omega
          | false =>
            have HE := Lib.hid (eval_no HZ.out hr)
            clear hr
            go_wp2_with fail
            go_ret
            exact ⟨by rw [HE.out]; (first | done | rfl), rfl⟩
    · obtain rfl : k = f.length := by omega
      have HE := Lib.hid (show evalM m f = true by have := H.out; rw [List.take_length] at this; exact this)
      clear H
      go_wp2_with fail
      go_ret
      exact ⟨by rw [HE.out]; (first | done | rfl), rfl⟩
end Go.Proofs.Ytdgmjdppiolkkaa
