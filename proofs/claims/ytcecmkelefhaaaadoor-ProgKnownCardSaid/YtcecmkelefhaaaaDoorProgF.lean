/-
  Why a program is refused: refusal of package prog, with the library's ContainsFunc at its two function values.
-/
import Derived.Test.YtcecmkelefhaaaaDoorProgE
namespace Go.Proofs.YtcecmkelefhaaaaDoor
open Go.ChangeShapes Go.WideShapes Go.ChangeAt Go.RowKit Go.Joins
set_option linter.unusedVariables false

theorem may_any (x : Int × Int) (W : World) :
    Calls Tryd.prog 29 #[.agg #[.int .i64 x.1, .int .i64 x.2]] W fun e W' => e = .returned (.bool (okI x)) ∧ Grown W W' := by
  obtain ⟨op, a⟩ := x
  unfold okI
  simp only
  by_cases h : 1 ≤ op ∧ op < 42
  · obtain ⟨k, rfl⟩ : ∃ k : Nat, op = k := ⟨op.toNat, by omega⟩
    rw [decide_eq_true h, Bool.true_and]
    exact may_yes k a (by omega) (by omega) W
  · rw [decide_eq_false h, Bool.false_and]
    exact may_no op a h W
theorem clo1 (s : ByteArray) (W : World) : Calls Tryd.prog 26 #[.string s] W fun e W' => e = .returned (.bool (decide (255 < s.size))) ∧ W' = W := by
  by_cases h : 255 < s.size
  · rw [decide_eq_true h]
    have h' : (255 : Int) < s.size := by omega
    go_enter Tryd.func26, Tryd.ntmps26
    go_wp2
    go_ret
    exact ⟨rfl, rfl⟩
  · rw [decide_eq_false h]
    have h' : decide ((255 : Int) < s.size) = false := decide_eq_false (by omega)
    go_enter Tryd.func26, Tryd.ntmps26
    go_wp2
    go_ret
    exact ⟨rfl, rfl⟩
theorem clo2 (x : Int × Int) (W : World) : Calls Tryd.prog 28 #[.agg #[.int .i64 x.1, .int .i64 x.2]] W fun e W' => e = .returned (.bool (!okI x)) ∧ Grown W W' := by
  have F := may_any x
  have HG := Lib.hid ((Grown.refl W).alloc #[.int .i64 x.1, .int .i64 x.2] 41)
  obtain ⟨c0, c1, _, _⟩ := two_cells (heap_alloc_new W (.cells #[.int .i64 x.1, .int .i64 x.2] 41))
  have hn : ∀ b w, (Op.unary .not (.bool b)).run Tryd.prog w = .ok (.bool (!b)) w := fun _ _ => rfl
  generalize okI x = r at F ⊢
  go_enter Tryd.func28, Tryd.ntmps28
  go_wp2_with (go_at_call 29; with_reducible refine (F _).mono ?_; rintro e w' ⟨rfl, G1⟩)
  go_ret
  exact ⟨rfl, grown_trans HG.out G1⟩
def IdxPost (r : Bool) (W : World) (e : Ending) (w' : World) : Prop := ∃ k : Int, e = .returned (.int .i64 k) ∧ decide (0 ≤ k) = r ∧ Gw W w'
theorem any_take {α : Type} {p : α → Bool} {c : List α} {k : Nat} {l : α} (h : c[k]? = some l) : (c.take (k + 1)).any p = ((c.take k).any p || p l) := by
  have hk := (List.getElem?_eq_some_iff.1 h).1
  rw [List.take_succ_eq_append_getElem hk, List.any_append, (List.getElem?_eq_some_iff.1 h).2]; simp
theorem any_of {α : Type} {p : α → Bool} {c : List α} {k : Nat} {l : α} (h : c[k]? = some l) (hp : p l = true) : c.any p = true :=
  List.any_eq_true.2 ⟨l, List.mem_of_getElem? h, hp⟩
set_option maxHeartbeats 2000000 in
theorem index1 {W : World} {B : Option Addr} {N : List ByteArray} {cb : Nat} (lb : N.length ≤ cb) (mb : cb ≤ 9223372036854775807) (h : StrAt W B N) :
    Calls Tryd.prog 36 #[.slice B N.length cb, .func (.func 26) #[] #[]] W (IdxPost (N.any fun s => decide (255 < s.size)) W) := by
  have HC := Lib.hid h
  have hn : (N.length : Int) ≤ 9223372036854775807 := by omega
  clear h
  go_enter Tryd.func36, Tryd.ntmps36
  go_wp2_with fail
  go_loop [8] (fun i => ∃ k : Nat, k ≤ N.length ∧ i = .int .i64 k ∧ Hid ((N.take k).any (fun s => decide (255 < s.size)) = false)) (fun i => N.length - (intOf i).toNat)
  case atStart => exact ⟨0, by omega, rfl, by simp [Hid]⟩
  case round =>
    obtain ⟨k, hk, rfl, H⟩ := hrel
    by_cases hlt : k < N.length
    · obtain ⟨s, hs⟩ : ∃ s, N[k]? = some s := ⟨_, List.getElem?_eq_getElem hlt⟩
      obtain ⟨g, off, rfl, hg, hcell⟩ := HC.out k s hs
      have cl := clo1 s
      cases hr : decide (255 < s.size) with
      | true =>
        have HE := Lib.hid (show N.any (fun s => decide (255 < s.size)) = true from any_of hs hr)
        rw [hr] at cl
        clear hs hr
        go_wp2_with (go_at_call 26; ((with_reducible refine (cl _).mono ?_); rintro e w' ⟨rfl, rfl⟩))
        go_ret
        exact ⟨_, rfl, by rw [HE.out]; simp, Gw.refl _⟩
      | false =>
        have HE := Lib.hid (show (N.take (k + 1)).any (fun s => decide (255 < s.size)) = false by rw [any_take hs, H.out, hr]; rfl)
        rw [hr] at cl
        clear hs hr
        go_wp2_with (go_at_call 26; ((with_reducible refine (cl _).mono ?_); rintro e w' ⟨rfl, rfl⟩))
        go_round
        case rel => exact ⟨k + 1, by omega, by go_num, HE.out⟩
        case measure => simp [intOf]; omega
    · obtain rfl : k = N.length := by omega
      have HE := Lib.hid (show N.any (fun s => decide (255 < s.size)) = false by have := H.out; rw [List.take_length] at this; exact this)
      clear H
      go_wp2_with fail
      go_ret
      exact ⟨_, rfl, by rw [HE.out]; rfl, Gw.refl _⟩
theorem contains1 {W : World} {B : Option Addr} {N : List ByteArray} {cb : Nat} (lb : N.length ≤ cb) (mb : cb ≤ 9223372036854775807) (h : StrAt W B N) :
    Calls Tryd.prog 25 #[.slice B N.length cb, .func (.func 26) #[] #[]] W fun e W' => e = .returned (.bool (N.any fun s => decide (255 < s.size))) ∧ Gw W W' := by
  have K := index1 lb mb h
  clear h
  generalize N.any (fun s => decide (255 < s.size)) = r at K ⊢
  go_enter Tryd.func25, Tryd.ntmps25
  go_wp2_with (go_at_call 36; ((with_reducible refine K.mono ?_); rintro e w' ⟨k, rfl, hr, G⟩))
  go_ret
  exact ⟨by rw [← hr]; rfl, G⟩
set_option maxHeartbeats 2000000 in
theorem index2 {W : World} {A : Option Addr} {L : List (Int × Int)} {ca : Nat} (la : L.length ≤ ca) (ma : ca ≤ 9223372036854775807) (h : InstAt W A L) :
    Calls Tryd.prog 37 #[.slice A L.length ca, .func (.func 28) #[] #[]] W (IdxPost (L.any fun x => !okI x) W) := by
  have HC := Lib.hid h
  have hn : (L.length : Int) ≤ 9223372036854775807 := by omega
  clear h
  go_enter Tryd.func37, Tryd.ntmps37
  go_wp2_with fail
  go_loopw [8] (fun i wr => ∃ k : Nat, k ≤ L.length ∧ i = .int .i64 k ∧ Hid ((L.take k).any (fun x => !okI x) = false) ∧ Hid (Gw W wr)) (fun i _ => L.length - (intOf i).toNat)
  case atStart => exact ⟨0, by omega, rfl, by simp [Hid], Gw.refl _⟩
  case round =>
    obtain ⟨k, hk, rfl, H, GW⟩ := hrel
    by_cases hlt : k < L.length
    · obtain ⟨x, hx⟩ : ∃ x, L[k]? = some x := ⟨_, List.getElem?_eq_getElem hlt⟩
      obtain ⟨g, off, rfl, hg, hc0, hc1⟩ := (HC.out.keep (fun j hj => GW.out.block j hj) GW.out.size) k x hx
      have cl := clo2 x
      cases hr : (!okI x) with
      | true =>
        have HE := Lib.hid (show L.any (fun x => !okI x) = true from any_of hx hr)
        rw [hr] at cl
        clear hx hr
        go_wp2_with (go_at_call 28; ((with_reducible refine (cl _).mono ?_); rintro e w' ⟨rfl, G1⟩))
        go_ret
        exact ⟨_, rfl, by rw [HE.out]; simp, GW.out.trans (Grown.gw G1)⟩
      | false =>
        have HE := Lib.hid (show (L.take (k + 1)).any (fun x => !okI x) = false by rw [any_take hx, H.out, hr]; rfl)
        rw [hr] at cl
        clear hx hr
        go_wp2_with (go_at_call 28; ((with_reducible refine (cl _).mono ?_); rintro e w' ⟨rfl, G1⟩))
        refine ⟨⟨k + 1, by omega, by go_num, HE.out, GW.out.trans (Grown.gw G1)⟩, ?_⟩
        simp [intOf]
        omega
    · obtain rfl : k = L.length := by omega
      have HE := Lib.hid (show L.any (fun x => !okI x) = false by have := H.out; rw [List.take_length] at this; exact this)
      clear H
      go_wp2_with fail
      go_ret
      exact ⟨_, rfl, by rw [HE.out]; rfl, GW.out⟩
theorem contains2 {W : World} {A : Option Addr} {L : List (Int × Int)} {ca : Nat} (la : L.length ≤ ca) (ma : ca ≤ 9223372036854775807) (h : InstAt W A L) :
    Calls Tryd.prog 27 #[.slice A L.length ca, .func (.func 28) #[] #[]] W fun e W' => e = .returned (.bool (L.any fun x => !okI x)) ∧ Gw W W' := by
  have K := index2 la ma h
  clear h
  generalize L.any (fun x => !okI x) = r at K ⊢
  go_enter Tryd.func27, Tryd.ntmps27
  go_wp2_with (go_at_call 37; ((with_reducible refine K.mono ?_); rintro e w' ⟨k, rfl, hr, G⟩))
  go_ret
  exact ⟨by rw [← hr]; rfl, G⟩
theorem any_not (L : List (Int × Int)) : (L.any fun x => !okI x) = !L.all okI := by simp [List.not_all_eq_any_not]
/-- refusal's answer is the number of the first error. -/
theorem refusal_any {W : World} {A B : Option Addr} {L : List (Int × Int)} {N : List ByteArray} {ca cb : Nat} (h : POk W A L ca B N cb) :
    Calls Tryd.prog 20 #[.agg #[.slice A L.length ca, .slice B N.length cb]] W fun e W' => e = .returned (.int .i64 (errP L N)) ∧ Gw W W' := by
  have HK := Lib.hid (h.alloc (.cells #[.slice A L.length ca, .slice B N.length cb] 25))
  have HG := Lib.hid (Gw.alloc W (.cells #[.slice A L.length ca, .slice B N.length cb] 25))
  obtain ⟨c0, c1, f0, f1⟩ := two_cells (heap_alloc_new W (.cells #[.slice A L.length ca, .slice B N.length cb] 25))
  clear h
  by_cases hL : 96 < L.length
  · have HX : errP L N = 3 := err3 (.inl hL)
    rw [HX]
    have hL' : (96 : Int) < L.length := by omega
    go_enter Tryd.func20, Tryd.ntmps20
    go_wp2
    all_goals
      go_ret
      exact ⟨rfl, HG.out⟩
  by_cases hN : 8 < N.length
  · have HX : errP L N = 3 := err3 (.inr hN)
    rw [HX]
    have hN' : (8 : Int) < N.length := by omega
    go_enter Tryd.func20, Tryd.ntmps20
    go_wp2
    all_goals
      go_ret
      exact ⟨rfl, HG.out⟩
  have hL' : decide ((96 : Int) < L.length) = false := decide_eq_false (by omega)
  have hN' : decide ((8 : Int) < N.length) = false := decide_eq_false (by omega)
  have C1 := contains1 HK.out.lb HK.out.mb HK.out.str
  cases h1 : (N.any fun s => decide (255 < s.size)) with
  | true =>
    have HX : errP L N = 10 := by unfold errP; rw [if_neg (by omega), h1, if_pos rfl]
    rw [HX]
    rw [h1] at C1
    clear hL hN h1
    go_enter Tryd.func20, Tryd.ntmps20
    go_wp2_with (go_at_call 25; ((with_reducible refine C1.mono ?_); rintro e w' ⟨rfl, G⟩))
    go_ret
    exact ⟨rfl, HG.out.trans G⟩
  | false =>
    have C2 := fun {W' : World} (G : Gw _ W') => contains2 HK.out.la HK.out.ma (HK.out.inst.keep (fun j hj => G.block j hj) G.size)
    have HX : errP L N = if (L.any fun x => !okI x) = true then 5 else 0 := by
      unfold errP
      rw [if_neg (by omega), h1, if_neg (by decide), any_not]
      cases L.all okI <;> rfl
    rw [HX]
    rw [h1] at C1
    clear HX
    cases h2 : (L.any fun x => !okI x) with
    | true =>
      rw [h2] at C2
      clear hL hN h1 h2
      go_enter Tryd.func20, Tryd.ntmps20
      go_wp2_with (first | (go_at_call 25; ((with_reducible refine C1.mono ?_); rintro e w' ⟨rfl, G⟩; have d0 := G.cell c0; have d1 := G.cell c1)) | (go_at_call 27; ((with_reducible refine (C2 G).mono ?_); rintro e w' ⟨rfl, G2⟩)))
      go_ret
      exact ⟨rfl, HG.out.trans (G.trans G2)⟩
    | false =>
      rw [h2] at C2
      clear hL hN h1 h2
      go_enter Tryd.func20, Tryd.ntmps20
      go_wp2_with (first | (go_at_call 25; ((with_reducible refine C1.mono ?_); rintro e w' ⟨rfl, G⟩; have d0 := G.cell c0; have d1 := G.cell c1)) | (go_at_call 27; ((with_reducible refine (C2 G).mono ?_); rintro e w' ⟨rfl, G2⟩)))
      go_ret
      exact ⟨rfl, HG.out.trans (G.trans G2)⟩
end Go.Proofs.YtcecmkelefhaaaaDoor
