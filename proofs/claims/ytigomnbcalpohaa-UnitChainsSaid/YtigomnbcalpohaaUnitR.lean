/-
  Run of package unit: the least truths at rest, or that there are none, or why it is none.
-/
import Derived.Test.YtigomnbcalpohaaUnitD
import Derived.Test.YtigomnbcalpohaaUnitF
namespace Go.Proofs.Ytigomnbcalpohaa
open Go.ChangeShapes Go.WideShapes Go.ChangeAt Go.RowKit
set_option linter.unusedVariables false

def unk (x : Int) : Bool := decide (x < -1 ∨ 1 < x)
theorem unknown_any (x : Int) (W : World) : Calls Try.prog 18 #[.int .i64 x] W fun e W' => e = .returned (.bool (unk x)) ∧ W = W' := by
  by_cases h1 : x < -1
  · have HE := Lib.hid (show unk x = true from decide_eq_true (.inl h1))
    go_enter Try.func18, Try.ntmps18
    go_wp2
    go_ret
    exact ⟨by rw [HE.out]; (first | done | rfl), rfl⟩
  · by_cases h2 : 1 < x
    · have HE := Lib.hid (show unk x = true from decide_eq_true (.inr h2))
      go_enter Try.func18, Try.ntmps18
      go_wp2
      go_ret
      exact ⟨by rw [HE.out]; (first | done | rfl), rfl⟩
    · have HE := Lib.hid (show unk x = false from decide_eq_false (fun h => h.elim h1 h2))
      go_enter Try.func18, Try.ntmps18
      go_wp2
      go_ret
      exact ⟨by rw [HE.out]; (first | done | rfl), rfl⟩
set_option maxHeartbeats 800000 in
theorem index_unk (B : Option Addr) (c : List Int) (ccap : Nat) (W : World) (hc : SeqAt (Value.int .i64) W B c) (hn : c.length ≤ 9223372036854775807) :
    Calls Try.prog 24 #[.slice B c.length ccap, .func (.func 18) #[] #[]] W (IdxPost (c.any unk) W) := by
  have HC := Lib.hid hc
  have K := Lib.hid (fun l => unknown_any l W)
  clear hc
  go_enter Try.func24, Try.ntmps24
  go_wp2_with fail
  go_loop [8] (fun i => ∃ k : Nat, k ≤ c.length ∧ i = .int .i64 k ∧ Hid ((c.take k).any unk = false)) (fun i => c.length - (intOf i).toNat)
  case atStart => exact ⟨0, by omega, rfl, by simp [Hid]⟩
  case round =>
    obtain ⟨k, hk, rfl, H⟩ := hrel
    by_cases hlt : k < c.length
    · obtain ⟨l, hz⟩ : ∃ l, c[k]? = some l := ⟨_, List.getElem?_eq_getElem hlt⟩
      obtain ⟨a, rfl, hcell⟩ := HC.out.get k l hz
      have cl := K.out l
      cases hr : unk l with
      | true =>
        have HE := Lib.hid (show c.any unk = true from any_of hz hr)
        rw [hr] at cl
        clear hz hr
        go_wp2_with (go_at_call 18; ((with_reducible refine cl.mono ?_); rintro e w' ⟨rfl, rfl⟩))
        go_ret
        exact ⟨_, rfl, by rw [HE.out]; simp, rfl⟩
      | false =>
        have HE := Lib.hid (show (c.take (k + 1)).any unk = false by rw [any_take hz, H.out, hr]; rfl)
        rw [hr] at cl
        clear hz hr
        go_wp2_with (go_at_call 18; ((with_reducible refine cl.mono ?_); rintro e w' ⟨rfl, rfl⟩))
        go_round
        case rel => exact ⟨k + 1, by omega, by go_num, HE.out⟩
        case measure => simp [intOf]; omega
    · obtain rfl : k = c.length := by omega
      have HE := Lib.hid (show c.any unk = false by have := H.out; rw [List.take_length] at this; exact this)
      clear H
      go_wp2_with fail
      go_ret
      exact ⟨_, rfl, by rw [HE.out]; rfl, rfl⟩
theorem contains_unk (B : Option Addr) (c : List Int) (ccap : Nat) (W : World) (hc : SeqAt (Value.int .i64) W B c) (hn : c.length ≤ 9223372036854775807) :
    Calls Try.prog 17 #[.slice B c.length ccap, .func (.func 18) #[] #[]] W fun e W' => e = .returned (.bool (c.any unk)) ∧ W = W' := by
  have K := index_unk B c ccap W hc hn
  clear hc
  generalize c.any unk = r at K ⊢
  go_enter Try.func17, Try.ntmps17
  go_wp2_with (go_at_call 24; ((with_reducible refine K.mono ?_); rintro e w' ⟨k, rfl, hr, rfl⟩))
  go_ret
  exact ⟨by first | rfl | exact ret_bool hr, rfl⟩
/-- May it be gone through at all? -/
def fine (n : Int) (f : List (List Int)) (m : List Int) : Bool := mayM n f && decide ((m.length : Int) = n) && !m.any unk
/-- What Run answers. -/
def RunPost (n : Int) (f : List (List Int)) (m : List Int) (W : World) (e : Ending) (W' : World) : Prop :=
  Below W.heap.size W W' ∧
  ((fine n f m = false ∧ e = .returned (.tuple #[.slice none 0 0, .bool false, .int .i64 1])) ∨
   (fine n f m = true ∧ Ans m.length f m none ∧ e = .returned (.tuple #[.slice none 0 0, .bool true, .int .i64 0])) ∨
   (fine n f m = true ∧ ∃ t A cap, Ans m.length f m (some t) ∧ e = .returned (.tuple #[.slice A t.length cap, .bool false, .int .i64 0]) ∧ SeqAt (Value.int .i64) W' A t ∧ (A = none → t.length = 0 ∧ cap = 0)))
theorem unk_tv {m : List Int} (h : m.any unk = false) : TV m.length m := by
  refine ⟨rfl, fun i x hx => ?_⟩
  have := List.any_eq_false.1 h x (List.mem_of_getElem? hx)
  unfold unk at this
  simp at this; omega
theorem may_ok {n : Int} {f : List (List Int)} (h : mayM n f = true) (hw : ∀ c ∈ f, ∀ l ∈ c, Wf l) : 0 ≤ n ∧ n ≤ 65536 ∧ ∀ k : Nat, (k : Int) = n → FOk k f := by
  unfold mayM at h
  rw [Bool.and_eq_true] at h
  obtain ⟨h1, h2⟩ := h
  have h1 := of_decide_eq_true h1
  refine ⟨h1.1, h1.2, fun k hk c hc l hl => ?_⟩
  have h3 := (okL_ref h1.1 h1.2 (hw c hc l hl)).1 (List.all_eq_true.1 (List.all_eq_true.1 h2 c hc) l hl)
  unfold LOk; omega
theorem cls_any {n : Nat} {f : List (List Int)} {m : List Int} {r : Option (List Int)} (ok : FOk n f) (hn : n ≤ 65536) (h : Ans n (cls f) m r) : Ans n f m r := h.rests fun u hu => cls_rest ok hn hu
theorem cls_small {f : List (List Int)} {N : Nat} (h : ∀ c ∈ f, c.length ≤ N) : ∀ c ∈ cls f, c.length ≤ N := fun c hc => by
  unfold cls at hc
  obtain ⟨hc, _⟩ := List.mem_filter.1 hc
  obtain ⟨d, hd, rfl⟩ := List.mem_map.1 hc
  exact Nat.le_trans (row_len d) (h d hd)
set_option maxHeartbeats 1600000 in
theorem run_any {A M : Option Addr} {f : List (List Int)} {m : List Int} {fcap mcap : Nat} (n : Int) (W : World) (hn : Wf n) (hf : FormAt W A f) (hfl : f.length ≤ 100000) (hcl : ∀ c ∈ f, c.length ≤ 100000) (hm : SeqAt (Value.int .i64) W M m) (hml : m.length ≤ 9223372036854775807) (hnil : M = none → m.length = 0 ∧ mcap = 0) :
    Calls Try.prog 12 #[.int .i64 n, .slice A f.length fcap, .slice M m.length mcap] W (RunPost n f m W) := by
  have cm := may_any n A f fcap W hn hf (by omega)
  have cu := contains_unk M m mcap W hm hml
  cases h1 : mayM n f with
  | false =>
    have HE := Lib.hid (show fine n f m = false by unfold fine; rw [h1]; rfl)
    rw [h1] at cm
    clear hf hm hcl cu h1
    go_enter Try.func12, Try.ntmps12
    go_wp2_with (go_at_call 16; ((with_reducible refine cm.mono ?_); rintro e w' ⟨rfl, rfl⟩))
    go_ret3
    exact ⟨Below.refl _ _, .inl ⟨HE.out, rfl⟩⟩
  | true =>
    rw [h1] at cm
    by_cases h2 : (m.length : Int) = n
    · subst h2
      cases h3 : m.any unk with
      | true =>
        have HE := Lib.hid (show fine m.length f m = false by unfold fine; rw [h3]; simp)
        rw [h3] at cu
        clear hf hm hcl h1 h3 hn
        go_enter Try.func12, Try.ntmps12
        go_wp2_with (first | (go_at_call 16; ((with_reducible refine cm.mono ?_); rintro e w' ⟨rfl, rfl⟩)) | (go_at_call 17; ((with_reducible refine cu.mono ?_); rintro e w' ⟨rfl, rfl⟩)))
        go_ret3
        exact ⟨Below.refl _ _, .inl ⟨HE.out, rfl⟩⟩
      | false =>
        obtain ⟨_, hn2, okf⟩ := may_ok h1 hf.wf
        have hn3 : m.length ≤ 65536 := by omega
        have ok := okf m.length rfl
        have HE := Lib.hid (show fine m.length f m = true by unfold fine; rw [h1, h3]; simp)
        have cc := Lib.hid (chain_any (A := A) (M := M) (fcap := fcap) (mcap := mcap) W hf hfl hcl hm hn3 (unk_tv h3) ok hnil)
        have TVM := Lib.hid (unk_tv h3)
        have OK := Lib.hid ok
        have CL := Lib.hid hcl
        rw [h3] at cu
        clear hf hm hcl h1 h3 hn okf ok
        go_enter Try.func12, Try.ntmps12
        go_wp2_with (first | (go_at_call 16; ((with_reducible refine cm.mono ?_); rintro e w' ⟨rfl, rfl⟩)) | (go_at_call 17; ((with_reducible refine cu.mono ?_); rintro e w' ⟨rfl, rfl⟩)) | (go_at_call 19; fail))
        refine cc.out.mono ?_
        rintro e w1 ⟨p, τ, F, cv, lv, wv, tv, hv, rfl, h1, hF, b1⟩
        have hle := cls_len f
        have cf := Lib.hid (follow_any (m := m) h1 (Fw.start TVM.out) hF (cls_ok OK.out) (fun c hc => cls_nodup hc) hn3 (by omega) (cls_small CL.out))
        have LOW : Hid (∀ τ' w', Step RF τ τ' w1 w' → Below W.heap.size W w') := fun τ' w' s => b1.trans (s.below h1.base (fun k hk h => by rw [h1.low k hk] at h; simp only [RF] at h; omega))
        clear h1 hF b1 cc cm cu
        go_wp2_with fail
        refine cf.out.mono ?_
        rintro e w2 (⟨rfl, τ', t', hs', lf', hv', k, hans, s⟩ | ⟨rfl, hans, τ', s⟩)
        · have HA := Lib.hid (cls_any OK.out hn3 hans)
          have HB := Lib.hid (LOW.out _ _ s)
          have c3 : w2.cell? ⟨p, 3, none⟩ = some tv := k.blk.cell 3
          obtain ⟨tA, tcap, hform⟩ : ∃ A c, tv = .slice A t'.length c := by have := k.trow.form; rwa [List.length_map] at this
          have HSQ : Hid (SeqAt (Value.int .i64) w2 tA t' ∧ (tA = none → t'.length = 0 ∧ tcap = 0)) := by
            refine ⟨⟨fun i z hz => ?_⟩, fun e => ?_⟩
            · obtain ⟨g, c, e1, _, e2, _⟩ := k.trow.cells i (.int .i64 z) (by rw [List.getElem?_map, hz]; rfl)
              rw [hform] at e1; injection e1 with e1 _ _
              exact ⟨_, e1, by rw [add_at]; exact e2⟩
            · rcases k.trow.at with ⟨e1, e2⟩ | ⟨g, c, cur, e1, _⟩
              · rw [hform] at e1; injection e1 with _ e3 e4; exact ⟨e3, e4⟩
              · rw [hform, e] at e1; cases e1
          subst hform
          clear hans s k LOW cf
          go_wp2_with fail
          go_ret3
          exact ⟨HB.out, .inr (.inr ⟨HE.out, t', tA, tcap, HA.out, rfl, HSQ.out.1, HSQ.out.2⟩)⟩
        · have HA := Lib.hid (cls_any OK.out hn3 hans)
          have HB := Lib.hid (LOW.out _ _ s)
          clear hans s LOW cf
          go_wp2_with fail
          go_ret3
          exact ⟨HB.out, .inr (.inl ⟨HE.out, HA.out, rfl⟩)⟩
    · have HE := Lib.hid (show fine n f m = false by unfold fine; rw [decide_eq_false h2]; simp)
      have e1 : ((m.length : Int) != n) = true := by rw [bne_iff_ne]; exact h2
      have e2 : ((m.length : Int) == n) = false := by rw [beq_eq_false_iff_ne]; exact h2
      clear hf hm hcl cu h1 h2
      go_enter Try.func12, Try.ntmps12
      go_wp2_with (go_at_call 16; ((with_reducible refine cm.mono ?_); rintro e w' ⟨rfl, rfl⟩))
      go_ret3
      exact ⟨Below.refl _ _, .inl ⟨HE.out, rfl⟩⟩
end Go.Proofs.Ytigomnbcalpohaa
