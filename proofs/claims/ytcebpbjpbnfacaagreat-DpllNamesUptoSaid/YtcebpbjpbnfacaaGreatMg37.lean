/-
  Parts of the proof, joined: UnitR, ClauO, UnitL.
-/
import Derived.Test.YtcebpbjpbnfacaaGreatMg36
import Derived.Test.YtcebpbjpbnfacaaGreatMg03
import Derived.ChangeSlices
import Derived.Deep.Slices
import Derived.Deep.Grids
import Derived.Deep.Matrix
import Derived.ChangeSame
import Derived.Carry

/-
  Run of package unit: the least truths at rest, or that there are none, or why it is none.
-/
namespace Go.Proofs.YtcebpbjpbnfacaaGreat
open Go.ChangeShapes Go.WideShapes Go.ChangeAt Go.RowKit
set_option linter.unusedVariables false

def unk (x : Int) : Bool := decide (x < -1 ∨ 1 < x)
theorem unknown_any (x : Int) (W : World) : Calls Tryz.prog 59 #[.int .i64 x] W fun e W' => e = .returned (.bool (unk x)) ∧ W = W' := by
  by_cases h1 : x < -1
  · have HE := Lib.hid (show unk x = true from decide_eq_true (.inl h1))
    go_enter Tryz.func59, Tryz.ntmps59
    go_wp2
    go_ret
    exact ⟨by rw [HE.out]; (first | done | rfl), rfl⟩
  · by_cases h2 : 1 < x
    · have HE := Lib.hid (show unk x = true from decide_eq_true (.inr h2))
      go_enter Tryz.func59, Tryz.ntmps59
      go_wp2
      go_ret
      exact ⟨by rw [HE.out]; (first | done | rfl), rfl⟩
    · have HE := Lib.hid (show unk x = false from decide_eq_false (fun h => h.elim h1 h2))
      go_enter Tryz.func59, Tryz.ntmps59
      go_wp2
      go_ret
      exact ⟨by rw [HE.out]; (first | done | rfl), rfl⟩
set_option maxHeartbeats 800000 in
theorem index_unk (B : Option Addr) (c : List Int) (ccap : Nat) (W : World) (hc : SeqAt (Value.int .i64) W B c) (hn : c.length ≤ 9223372036854775807) :
    Calls Tryz.prog 86 #[.slice B c.length ccap, .func (.func 59) #[] #[]] W (IdxPost (c.any unk) W) := by
  have HC := Lib.hid hc
  have K := Lib.hid (fun l => unknown_any l W)
  clear hc
  go_enter Tryz.func86, Tryz.ntmps86
  go_wp2_with fail
  go_loop [8] (fun i => ∃ k : Nat, k ≤ c.length ∧ i = .int .i64 k ∧ Hid ((c.take k).any unk = false)) (fun i => c.length - (intOf i).toNat)
  case atStart => exact ⟨0, by omega, rfl, by simp [Hid]⟩
  case round =>
    obtain ⟨k, hk, rfl, H⟩ := hrel
    by_cases hlt : k < c.length
    · obtain ⟨l, hz⟩ : ∃ l, c[k]? = some l := ⟨_, List.getElem?_eq_getElem hlt⟩
      obtain ⟨a, rfl, hcell⟩ := HC.out.get k l hz
      have cl := K.out l
      cases hr : unk l with
      | true =>
        have HE := Lib.hid (show c.any unk = true from any_of hz hr)
        rw [hr] at cl
        clear hz hr
        go_wp2_with (go_at_call 59; ((with_reducible refine cl.mono ?_); rintro e w' ⟨rfl, rfl⟩))
        go_ret
        exact ⟨_, rfl, by rw [HE.out]; simp, rfl⟩
      | false =>
        have HE := Lib.hid (show (c.take (k + 1)).any unk = false by rw [any_take hz, H.out, hr]; rfl)
        rw [hr] at cl
        clear hz hr
        go_wp2_with (go_at_call 59; ((with_reducible refine cl.mono ?_); rintro e w' ⟨rfl, rfl⟩))
        go_round
        case rel => exact ⟨k + 1, by omega, by go_num, HE.out⟩
        case measure => simp [intOf]; omega
    · obtain rfl : k = c.length := by omega
      have HE := Lib.hid (show c.any unk = false by have := H.out; rw [List.take_length] at this; exact this)
      clear H
      go_wp2_with fail
      go_ret
      exact ⟨_, rfl, by rw [HE.out]; rfl, rfl⟩
theorem contains_unk (B : Option Addr) (c : List Int) (ccap : Nat) (W : World) (hc : SeqAt (Value.int .i64) W B c) (hn : c.length ≤ 9223372036854775807) :
    Calls Tryz.prog 58 #[.slice B c.length ccap, .func (.func 59) #[] #[]] W fun e W' => e = .returned (.bool (c.any unk)) ∧ W = W' := by
  have K := index_unk B c ccap W hc hn
  clear hc
  generalize c.any unk = r at K ⊢
  go_enter Tryz.func58, Tryz.ntmps58
  go_wp2_with (go_at_call 86; ((with_reducible refine K.mono ?_); rintro e w' ⟨k, rfl, hr, rfl⟩))
  go_ret
  exact ⟨by first | rfl | exact ret_bool hr, rfl⟩
/-- May it be gone through at all? -/
def fine (n : Int) (f : List (List Int)) (m : List Int) : Bool := mayM n f && decide ((m.length : Int) = n) && !m.any unk
/-- What Run answers. -/
def RunPost (n : Int) (f : List (List Int)) (m : List Int) (W : World) (e : Ending) (W' : World) : Prop :=
  Below W.heap.size W W' ∧
  ((fine n f m = false ∧ e = .returned (.tuple #[.slice none 0 0, .bool false, .int .i64 1])) ∨
   (fine n f m = true ∧ Ans m.length f m none ∧ e = .returned (.tuple #[.slice none 0 0, .bool true, .int .i64 0])) ∨
   (fine n f m = true ∧ ∃ t A cap, Ans m.length f m (some t) ∧ e = .returned (.tuple #[.slice A t.length cap, .bool false, .int .i64 0]) ∧ SeqAt (Value.int .i64) W' A t ∧ (A = none → t.length = 0 ∧ cap = 0)))
theorem unk_tv {m : List Int} (h : m.any unk = false) : TV m.length m := by
  refine ⟨rfl, fun i x hx => ?_⟩
  have := List.any_eq_false.1 h x (List.mem_of_getElem? hx)
  unfold unk at this
  simp at this; omega
theorem may_ok {n : Int} {f : List (List Int)} (h : mayM n f = true) (hw : ∀ c ∈ f, ∀ l ∈ c, Wf l) : 0 ≤ n ∧ n ≤ 65536 ∧ ∀ k : Nat, (k : Int) = n → FOk k f := by
  unfold mayM at h
  rw [Bool.and_eq_true] at h
  obtain ⟨h1, h2⟩ := h
  have h1 := of_decide_eq_true h1
  refine ⟨h1.1, h1.2, fun k hk c hc l hl => ?_⟩
  have h3 := (okL_ref h1.1 h1.2 (hw c hc l hl)).1 (List.all_eq_true.1 (List.all_eq_true.1 h2 c hc) l hl)
  unfold LOk; omega
theorem cls_any {n : Nat} {f : List (List Int)} {m : List Int} {r : Option (List Int)} (ok : FOk n f) (hn : n ≤ 65536) (h : Ans n (cls f) m r) : Ans n f m r := h.rests fun u hu => cls_rest ok hn hu
theorem cls_small {f : List (List Int)} {N : Nat} (h : ∀ c ∈ f, c.length ≤ N) : ∀ c ∈ cls f, c.length ≤ N := fun c hc => by
  unfold cls at hc
  obtain ⟨hc, _⟩ := List.mem_filter.1 hc
  obtain ⟨d, hd, rfl⟩ := List.mem_map.1 hc
  exact Nat.le_trans (row_len d) (h d hd)
set_option maxHeartbeats 1600000 in
theorem run_any {A M : Option Addr} {f : List (List Int)} {m : List Int} {fcap mcap : Nat} (n : Int) (W : World) (hn : Wf n) (hf : FormAt W A f) (hfl : f.length ≤ 100000) (hcl : ∀ c ∈ f, c.length ≤ 100000) (hm : SeqAt (Value.int .i64) W M m) (hml : m.length ≤ 9223372036854775807) (hnil : M = none → m.length = 0 ∧ mcap = 0) :
    Calls Tryz.prog 32 #[.int .i64 n, .slice A f.length fcap, .slice M m.length mcap] W (RunPost n f m W) := by
  have cm := may_any n A f fcap W hn hf (by omega)
  have cu := contains_unk M m mcap W hm hml
  cases h1 : mayM n f with
  | false =>
    have HE := Lib.hid (show fine n f m = false by unfold fine; rw [h1]; rfl)
    rw [h1] at cm
    clear hf hm hcl cu h1
    go_enter Tryz.func32, Tryz.ntmps32
    go_wp2_with (go_at_call 31; ((with_reducible refine cm.mono ?_); rintro e w' ⟨rfl, rfl⟩))
    go_ret3
    exact ⟨Below.refl _ _, .inl ⟨HE.out, rfl⟩⟩
  | true =>
    rw [h1] at cm
    by_cases h2 : (m.length : Int) = n
    · subst h2
      cases h3 : m.any unk with
      | true =>
        have HE := Lib.hid (show fine m.length f m = false by unfold fine; rw [h3]; simp)
        rw [h3] at cu
        clear hf hm hcl h1 h3 hn
        go_enter Tryz.func32, Tryz.ntmps32
        go_wp2_with (first | (go_at_call 31; ((with_reducible refine cm.mono ?_); rintro e w' ⟨rfl, rfl⟩)) | (go_at_call 58; ((with_reducible refine cu.mono ?_); rintro e w' ⟨rfl, rfl⟩)))
        go_ret3
        exact ⟨Below.refl _ _, .inl ⟨HE.out, rfl⟩⟩
      | false =>
        obtain ⟨_, hn2, okf⟩ := may_ok h1 hf.wf
        have hn3 : m.length ≤ 65536 := by omega
        have ok := okf m.length rfl
        have HE := Lib.hid (show fine m.length f m = true by unfold fine; rw [h1, h3]; simp)
        have cc := Lib.hid (chain_any (A := A) (M := M) (fcap := fcap) (mcap := mcap) W hf hfl hcl hm hn3 (unk_tv h3) ok hnil)
        have TVM := Lib.hid (unk_tv h3)
        have OK := Lib.hid ok
        have CL := Lib.hid hcl
        rw [h3] at cu
        clear hf hm hcl h1 h3 hn okf ok
        go_enter Tryz.func32, Tryz.ntmps32
        go_wp2_with (first | (go_at_call 31; ((with_reducible refine cm.mono ?_); rintro e w' ⟨rfl, rfl⟩)) | (go_at_call 58; ((with_reducible refine cu.mono ?_); rintro e w' ⟨rfl, rfl⟩)) | (go_at_call 60; fail))
        refine cc.out.mono ?_
        rintro e w1 ⟨p, τ, F, cv, lv, wv, tv, hv, rfl, h1, hF, b1⟩
        have hle := cls_len f
        have cf := Lib.hid (follow_any (m := m) h1 (Fw.start TVM.out) hF (cls_ok OK.out) (fun c hc => cls_nodup hc) hn3 (by omega) (cls_small CL.out))
        have LOW : Hid (∀ τ' w', Step RF τ τ' w1 w' → Below W.heap.size W w') := fun τ' w' s => b1.trans (s.below h1.base (fun k hk h => by rw [h1.low k hk] at h; simp only [RF] at h; omega))
        clear h1 hF b1 cc cm cu
        go_wp2_with fail
        refine cf.out.mono ?_
        rintro e w2 (⟨rfl, τ', t', hs', lf', hv', k, hans, s⟩ | ⟨rfl, hans, τ', s⟩)
        · have HA := Lib.hid (cls_any OK.out hn3 hans)
          have HB := Lib.hid (LOW.out _ _ s)
          have c3 : w2.cell? ⟨p, 3, none⟩ = some tv := k.blk.cell 3
          obtain ⟨tA, tcap, hform⟩ : ∃ A c, tv = .slice A t'.length c := by have := k.trow.form; rwa [List.length_map] at this
          have HSQ : Hid (SeqAt (Value.int .i64) w2 tA t' ∧ (tA = none → t'.length = 0 ∧ tcap = 0)) := by
            refine ⟨⟨fun i z hz => ?_⟩, fun e => ?_⟩
            · obtain ⟨g, c, e1, _, e2, _⟩ := k.trow.cells i (.int .i64 z) (by rw [List.getElem?_map, hz]; rfl)
              rw [hform] at e1; injection e1 with e1 _ _
              exact ⟨_, e1, by rw [add_at]; exact e2⟩
            · rcases k.trow.at with ⟨e1, e2⟩ | ⟨g, c, cur, e1, _⟩
              · rw [hform] at e1; injection e1 with _ e3 e4; exact ⟨e3, e4⟩
              · rw [hform, e] at e1; cases e1
          subst hform
          clear hans s k LOW cf
          go_wp2_with fail
          go_ret3
          exact ⟨HB.out, .inr (.inr ⟨HE.out, t', tA, tcap, HA.out, rfl, HSQ.out.1, HSQ.out.2⟩)⟩
        · have HA := Lib.hid (cls_any OK.out hn3 hans)
          have HB := Lib.hid (LOW.out _ _ s)
          clear hans s LOW cf
          go_wp2_with fail
          go_ret3
          exact ⟨HB.out, .inr (.inl ⟨HE.out, HA.out, rfl⟩)⟩
    · have HE := Lib.hid (show fine n f m = false by unfold fine; rw [decide_eq_false h2]; simp)
      have e1 : ((m.length : Int) != n) = true := by rw [bne_iff_ne]; exact h2
      have e2 : ((m.length : Int) == n) = false := by rw [beq_eq_false_iff_ne]; exact h2
      clear hf hm hcl cu h1 h2
      go_enter Tryz.func32, Tryz.ntmps32
      go_wp2_with (go_at_call 31; ((with_reducible refine cm.mono ?_); rintro e w' ⟨rfl, rfl⟩))
      go_ret3
      exact ⟨Below.refl _ _, .inl ⟨HE.out, rfl⟩⟩
end Go.Proofs.YtcebpbjpbnfacaaGreat

/-
  Arguments of a law, opened: slices of numbers, of truths, formulas; and how a law's end is told.
-/
namespace Go.Proofs.YtcebpbjpbnfacaaGreat
open Go.ChangeShapes Go.WideShapes Go.ChangeAt Go.RowKit
set_option linter.unusedVariables false

theorem laidOut : laidOutB Tryz.prog = true := by kernel_rfl
theorem wf_of {n : Int} (h : (Lit.int .i64 n).wf = true) : Wf n := by
  simp only [Lit.wf, IntKind.min, IntKind.max, IntKind.signed, IntKind.bits, Bool.and_eq_true, decide_eq_true_eq, if_true] at h
  unfold Wf; omega
section
variable {H : Type} {enc : TypeId × Value → H} {P : Program} {W : World}
theorem slice_ok {base : Nat} {t e : TypeId} (ht : P.underlying t = some (.slice e)) {v : Value} (h : Value.okWide P W .any base t v) :
    v = .slice none 0 0 ∨ ∃ a len cap, v = .slice (some a) len cap ∧ len ≤ cap ∧ a.spot = none ∧ a.block < W.heap.size := by
  unfold Value.okWide at h
  rw [ht] at h
  simp only [Cell.okWide, ht] at h
  unfold Cell.ok at h
  rw [ht] at h
  split at h <;> first | (exact h.elim) | skip
  all_goals first | (simp at *; done) | skip
  all_goals rename_i hu
  all_goals first
    | exact .inl rfl
    | (obtain ⟨h1, _, _, hs, row, cells, hsh, _⟩ := h
       refine .inr ⟨_, _, _, rfl, h1, hs, ?_⟩
       unfold World.shape? at hsh
       split at hsh
       · rename_i hb; exact lt_of_heap hb
       · cases hsh)
/-- A value that is a slice of numbers. -/
def IntsIn (W : World) (v : Value) : Prop := ∃ (A : Option Addr) (zs : List Int) (cap : Nat), v = .slice A zs.length cap ∧ SeqAt (Value.int .i64) W A zs ∧ zs.length ≤ 9223372036854775807 ∧ ∀ z ∈ zs, Wf z
theorem ints_open {base : Nat} {t e : TypeId} (ht : P.underlying t = some (.slice e)) (he : P.underlying e = some (.int .i64)) (hc : P.cellsOf e = 1) {v : Value} {d : DataW H} {p : List MemPlace}
    (hok : Value.okWide P W .any base t v) (h : DataW.Trod enc P W 0 (fun _ => true) true t v d p) : IntsIn W v := by
  rcases slice_ok ht hok with rfl | ⟨a, len, cap, rfl, hl, hs, hb⟩
  · exact ⟨none, [], 0, rfl, SeqAt.nil _ _, Nat.zero_le _, (fun z hz => by cases hz)⟩
  · obtain ⟨fuel, hf⟩ := h
    rcases open_ints ht he hc hf with ⟨h0, _⟩ | ⟨a', len', cap', zs, h1, _, hle, hm, hzl, _, hcell, hwf⟩
    · simp [Value.cells] at h0
    · simp only [Value.cells, List.cons.injEq, and_true] at h1
      injection h1 with h1 h2 h3
      injection h1 with h1
      subst h1; subst h2; subst h3
      rw [if_pos rfl] at hzl
      have hlen : (zs.take len).length = len := by rw [List.length_take]; omega
      unfold maxLen at hm
      refine ⟨some a, zs.take len, cap, by rw [hlen], ⟨fun i z hz => ⟨a, rfl, ?_⟩⟩, by omega, fun z hz => wf_of (hwf z (List.mem_of_mem_take hz))⟩
      have hi : i < len := by have := (List.getElem?_eq_some_iff.1 hz).1; omega
      rw [List.getElem?_take_of_lt hi] at hz
      rw [hcell i (by omega), List.getD_eq_getElem?_getD, hz]; rfl
/-- A value that is a slice of truths. -/
def BoolsIn (W : World) (v : Value) : Prop := ∃ (A : Option Addr) (zs : List Bool) (cap : Nat), v = .slice A zs.length cap ∧ SeqAt Value.bool W A zs ∧ zs.length ≤ 9223372036854775807
theorem bools_open {base : Nat} {t e : TypeId} (ht : P.underlying t = some (.slice e)) (he : P.underlying e = some .bool) (hc : P.cellsOf e = 1) {v : Value} {d : DataW H} {p : List MemPlace}
    (hok : Value.okWide P W .any base t v) (h : DataW.Trod enc P W 0 (fun _ => true) true t v d p) : BoolsIn W v := by
  rcases slice_ok ht hok with rfl | ⟨a, len, cap, rfl, hl, hs, hb⟩
  · exact ⟨none, [], 0, rfl, SeqAt.nil _ _, Nat.zero_le _⟩
  · obtain ⟨fuel, hf⟩ := h
    rcases Deep.open_bools ht he hc hf with ⟨h0, _⟩ | ⟨a', len', cap', B, h1, _, hle, hm, _, hcell⟩
    · simp [Value.cells] at h0
    · simp only [Value.cells, List.cons.injEq, and_true] at h1
      injection h1 with h1 h2 h3
      injection h1 with h1
      subst h1; subst h2; subst h3
      unfold maxLen at hm
      refine ⟨some a, (List.range len).map B, cap, by simp, ⟨fun i z hz => ⟨a, rfl, ?_⟩⟩, by simp; omega⟩
      have hi : i < len := by have := (List.getElem?_eq_some_iff.1 hz).1; simpa using this
      rw [hcell i (by omega)]
      simp [hi] at hz; rw [hz]
/-- A value that is a formula. -/
def FormIn (W : World) (v : Value) : Prop := ∃ (A : Option Addr) (f : List (List Int)) (cap : Nat), v = .slice A f.length cap ∧ FormAt W A f ∧ f.length ≤ 9223372036854775807
theorem form_open {base : Nat} {t e q : TypeId} (ht : P.underlying t = some (.slice e)) (he : P.underlying e = some (.slice q)) (hq : P.underlying q = some (.int .i64)) (ce : P.cellsOf e = 1) (cq : P.cellsOf q = 1) {v : Value} {d : DataW H} {p : List MemPlace}
    (hok : Value.okWide P W .any base t v) (h : DataW.Trod enc P W 0 (fun _ => true) true t v d p) : FormIn W v := by
  rcases slice_ok ht hok with rfl | ⟨a, len, cap, rfl, hl, hs, hb⟩
  · exact ⟨none, [], 0, rfl, ⟨fun i c hc => by simp at hc, (fun a ha => by cases ha), (fun c hc => by cases hc)⟩, Nat.zero_le _⟩
  · obtain ⟨fuel, hf⟩ := h
    rcases Deep.open_int_rows ht he hq ce cq hf with ⟨h0, _⟩ | ⟨a', len', cap', A, L, C, Z, h1, _, hle, hm, _, hr⟩
    · simp [Value.cells] at h0
    · simp only [Value.cells, List.cons.injEq, and_true] at h1
      injection h1 with h1 h2 h3
      injection h1 with h1
      subst h1; subst h2; subst h3
      unfold maxLen at hm
      refine ⟨some a, (List.range len).map fun r => (Z r).take (L r), cap, by simp, ⟨fun i c hc => ?_, fun a' ha => by injection ha with ha; subst ha; exact hb, fun c hc l hl' => ?_⟩, by simp; omega⟩
      · have hi : i < len := by have := (List.getElem?_eq_some_iff.1 hc).1; simpa using this
        simp [hi] at hc
        obtain ⟨g1, g2, g3, g4, g5, g6, g7⟩ := hr i (by omega)
        unfold maxLen at g3
        have hcl : c.length = L i := by rw [← hc, List.length_take]; omega
        refine ⟨a, A i, C i, rfl, by rw [hcl]; exact g1, ⟨fun j z hz => ?_⟩, by omega⟩
        have hj : j < L i := by have := (List.getElem?_eq_some_iff.1 hz).1; omega
        cases hA : A i with
        | none => have := g6 hA; omega
        | some b =>
          refine ⟨b, rfl, ?_⟩
          rw [← hc, List.getElem?_take_of_lt hj] at hz
          rw [(g7 b hA).2 j (by omega), List.getD_eq_getElem?_getD, hz]; rfl
      · obtain ⟨r, hr', rfl⟩ := List.mem_map.1 hc
        exact wf_of ((hr r (by have := List.mem_range.1 hr'; omega)).2.2.2.2.1 l (List.mem_of_mem_take hl'))
end
theorem post_kept {H : Type} {enc : TypeId × Value → H} {P : Program} {f : Func} {s : ChangeSpec} {apart fresh handsOn again : Bool} {W W' : World} {args : Array Value} {v : Value} {ds gs : List (DataW H)} {before pa pv : List MemPlace}
    (hW : DataW.Whole enc P f.params.toList s.vars apart W args.toList ds gs before) (hb : Below W.heap.size W W')
    (hres : ∀ (b : Nat) (sp : Nat → Bool) (hd : Bool), DataW.TrodAll enc P W' b sp hd f.resultTypes.toList (v.resultList f.resultTypes.size) (s.fn H (ds ++ gs)).results [])
    (hargs : ∀ sp : Nat → Bool, (∀ p ∈ before, sp p.block = true) → DataW.TrodAll enc P W' 0 sp true f.params.toList args.toList (s.fn H (ds ++ gs)).args pa)
    (hvars : ∀ sp : Nat → Bool, (∀ p ∈ before, sp p.block = true) → DataW.TrodVars enc P W' sp s.vars (s.fn H (ds ++ gs)).vars pv) (hps : before = pa ++ pv)
    (hok : ∀ (j : Nat) (t : TypeId) (r : Value), f.resultTypes[j]? = some t → (v.resultList f.resultTypes.size)[j]? = some r → Value.okWide P W' .any 0 t r) : s.post enc P f apart fresh handsOn again W args v W' := by
  have lt : ∀ p ∈ before, p.block < W.heap.size := fun p hp => hW.lt p hp
  subst hps
  have Rall := hargs (fun _ => true) (fun _ _ => rfl)
  have Vall := hvars (fun _ => true) (fun _ _ => rfl)
  have Rold := hargs (fun b => decide (b < W.heap.size)) (fun p hp => decide_eq_true (lt p hp))
  have Vold := hvars (fun b => decide (b < W.heap.size)) (fun p hp => decide_eq_true (lt p hp))
  have places := hW
  obtain ⟨_, _, _, _, _, cold, single⟩ := places
  exact ⟨ds, gs, pa ++ pv, [], pa, pv, hW, hres _ _ _, Rold, Vold, World.keptBut_mono (fun p hp => ⟨hp, .inr (List.mem_append.1 hp)⟩) (hb.frame (· ∈ pa ++ pv)), fun _ =>
    ⟨hok, _, _, ([] ++ pa) ++ pv, ⟨[] ++ pa, pv, trodAll_append Rall (hres _ _ _), Vall, rfl, fun b o hp => (hb.frozen (lt _ hp)).trans (cold b o hp), single⟩, fun p hp _ => hp⟩⟩
end Go.Proofs.YtcebpbjpbnfacaaGreat

/-
  What the laws of unit go by: answers reckoned by going through all truths, formulas and rows that a law lays itself, Run at them, the document's example, Small.
-/
namespace Go.Proofs.YtcebpbjpbnfacaaGreat
open Go.ChangeShapes Go.WideShapes Go.ChangeAt Go.RowKit
set_option linter.unusedVariables false

/-! ### Answers, reckoned -/
def allT : Nat → List (List Int)
  | 0 => [[]]
  | n + 1 => (allT n).flatMap fun t => [-1 :: t, 0 :: t, 1 :: t]
theorem all_t : ∀ {n : Nat} {u : List Int}, TV n u → u ∈ allT n
  | 0, [], _ => by simp [allT]
  | 0, x :: u, h => by have := h.1; simp at this
  | n + 1, [], h => by have := h.1; simp at this
  | n + 1, x :: u, h => by
    have hu : TV n u := ⟨by have := h.1; simpa using this, fun i y hy => h.2 (i + 1) y (by simpa using hy)⟩
    have hx := h.2 0 x rfl
    unfold allT
    refine List.mem_flatMap.2 ⟨u, all_t hu, ?_⟩
    rcases hx with rfl | rfl | rfl <;> simp
def restCB (u c : List Int) : Bool := (c.any fun x => wo u x == 1) || c.any fun x => c.any fun y => x != y && wo u x == 0 && wo u y == 0
theorem rest_b {u c : List Int} : restCB u c = true ↔ RestC u c := by
  unfold restCB RestC
  simp only [Bool.or_eq_true, List.any_eq_true, Bool.and_eq_true, beq_iff_eq, bne_iff_ne]
  constructor
  · rintro (⟨x, a, b⟩ | ⟨x, a, y, b, ⟨e, d⟩, g⟩)
    · exact .inl ⟨x, a, b⟩
    · exact .inr ⟨x, a, y, b, e, d, g⟩
  · rintro (⟨x, a, b⟩ | ⟨x, a, y, b, e, d, g⟩)
    · exact .inl ⟨x, a, b⟩
    · exact .inr ⟨x, a, y, b, ⟨e, d⟩, g⟩
def upB (t u : List Int) : Bool := (List.range t.length).all fun i => t[i]?.getD 0 == 0 || u[i]? == t[i]?
theorem up_b {t u : List Int} : upB t u = true ↔ Up t u := by
  unfold upB Up
  simp only [List.all_eq_true, List.mem_range, Bool.or_eq_true, beq_iff_eq]
  constructor
  · intro h i x hx h0
    rcases h i (List.getElem?_eq_some_iff.1 hx).1 with e | e
    · rw [hx] at e; simp at e; exact absurd e h0
    · rw [e, hx]
  · intro h i hi
    have hx : t[i]? = some t[i] := List.getElem?_eq_getElem hi
    by_cases e : t[i] = 0
    · left; rw [hx]; simpa using e
    · right; rw [hx]; exact h i _ hx e
def ansB (n : Nat) (f : List (List Int)) (m : List Int) : Option (List Int) → Bool
  | some t => decide (t.length = n) && t.all (fun x => x == -1 || x == 0 || x == 1) && upB m t && f.all (restCB t) && (allT n).all fun u => !(upB m u && f.all (restCB u)) || upB t u
  | none => (allT n).all fun u => !(upB m u && f.all (restCB u))
theorem rest_all {f : List (List Int)} {u : List Int} : f.all (restCB u) = true ↔ Rest f u := by
  unfold Rest
  rw [List.all_eq_true]
  exact ⟨fun h c hc => rest_b.1 (h c hc), fun h c hc => rest_b.2 (h c hc)⟩
theorem ans_b {n : Nat} {f : List (List Int)} {m : List Int} : ∀ {r : Option (List Int)}, ansB n f m r = true → Ans n f m r
  | none, h => fun u hu hm hr => by
    have := List.all_eq_true.1 h u (all_t hu)
    rw [up_b.2 hm, rest_all.2 hr] at this; cases this
  | some t, h => by
    unfold ansB at h
    simp only [Bool.and_eq_true] at h
    obtain ⟨⟨⟨⟨h1, h2⟩, h3⟩, h4⟩, h5⟩ := h
    refine ⟨⟨of_decide_eq_true h1, fun i x hx => ?_⟩, up_b.1 h3, rest_all.1 h4, fun u hu hm hr => ?_⟩
    · have := List.all_eq_true.1 h2 x (List.mem_of_getElem? hx)
      simp at this; omega
    · have := List.all_eq_true.1 h5 u (all_t hu)
      rw [up_b.2 hm, rest_all.2 hr] at this
      exact up_b.1 (by simpa using this)

/-! ### What a law lays -/
theorem vals_at {α : Type} (v : α → Value) (w : World) (t : TypeId) (l : List α) : SeqAt v (w.alloc (.cells (l.map v).toArray t)) (some ⟨w.heap.size, 0, none⟩) l := by
  refine ⟨fun i z hz => ⟨_, rfl, ?_⟩⟩
  rw [add_at, World.cell?_alloc_at _ _ _ _ rfl]
  simp [hz]
theorem vals_g {α : Type} (v : α → Value) {w : World} (t : TypeId) (l : List α) {g : Nat} (hg : w.heap.size = g) : SeqAt v (w.alloc (.cells (l.map v).toArray t)) (some ⟨g, 0, none⟩) l := by subst hg; exact vals_at v w t l
def RowsOK (w : World) (news : List Value) (f : List (List Int)) : Prop := news.length = f.length ∧ ∀ (i : Nat) (c : List Int), f[i]? = some c → ∃ B cap, news[i]? = some (.slice B c.length cap) ∧ SeqAt (Value.int .i64) w B c ∧ c.length ≤ 9223372036854775807
theorem rows_form {w : World} {news : List Value} {f : List (List Int)} (t : TypeId) {g : Nat} (hg : w.heap.size = g) (h : RowsOK w news f) (hw : ∀ c ∈ f, ∀ l ∈ c, Wf l) : FormAt (w.alloc (.cells news.toArray t)) (some ⟨g, 0, none⟩) f := by
  subst hg
  refine ⟨fun i c hc => ?_, fun a ha => by injection ha with ha; subst ha; simp, hw⟩
  obtain ⟨B, cap, h1, h2, h3⟩ := h.2 i c hc
  refine ⟨_, B, cap, rfl, ?_, h2.keep ((Below.refl _ _).alloc (Nat.le_refl _) _), h3⟩
  rw [add_at, World.cell?_alloc_at _ _ _ _ rfl]
  simpa using h1
def rv : Nat → List (List Int) → List Value
  | _, [] => []
  | g, c :: f => .slice (some ⟨g, 0, none⟩) c.length c.length :: rv (g + 1) f
def lay : World → List (List Int) → World
  | w, [] => w
  | w, c :: f => lay (w.alloc (.cells (ints c).toArray 3)) f
theorem lay_ok : ∀ (f : List (List Int)) (w : World), (∀ c ∈ f, c.length ≤ 9223372036854775807) → Below w.heap.size w (lay w f) ∧ (lay w f).heap.size = w.heap.size + f.length ∧ RowsOK (lay w f) (rv w.heap.size f) f
  | [], w, _ => ⟨Below.refl _ _, rfl, rfl, fun i c hc => by simp at hc⟩
  | c :: f, w, h => by
    have hs : (w.alloc (.cells (ints c).toArray 3)).heap.size = w.heap.size + 1 := by simp
    obtain ⟨h1, h2, h3⟩ := lay_ok f (w.alloc (.cells (ints c).toArray 3)) (fun d hd => h d (by simp [hd]))
    rw [hs] at h1 h2 h3
    have b0 : Below w.heap.size w (w.alloc (.cells (ints c).toArray 3)) := (Below.refl _ _).alloc (Nat.le_refl _) _
    refine ⟨b0.trans (h1.mono (by omega)), by show (lay _ f).heap.size = _; rw [h2, List.length_cons]; omega, by show (rv _ f).length + 1 = _; rw [h3.1, List.length_cons], fun i d hd => ?_⟩
    cases i with
    | zero =>
      simp at hd; subst hd
      exact ⟨_, _, rfl, (vals_at _ w 3 c).keep (by rw [hs]; exact h1), h c (by simp)⟩
    | succ i => exact h3.2 i d (by simpa using hd)
theorem form_none (w : World) : FormAt w none [] := ⟨fun i c hc => by simp at hc, (fun a ha => by cases ha), (fun c hc => by cases hc)⟩
theorem below_alloc (w : World) (o : Obj) : Below w.heap.size w (w.alloc o) := (Below.refl _ _).alloc (Nat.le_refl _) o
theorem Below.plus {w w' : World} (h : Below w.heap.size w w') (o : Obj) : Below w.heap.size w (w'.alloc o) := h.alloc h.size o
theorem Below.on {w w' w'' : World} (h : Below w.heap.size w w') (k : Below w'.heap.size w' w'') : Below w.heap.size w w'' := h.trans (k.mono h.size)

/-! ### Run -/
def RunIs (r : Option (Option (List Int))) (w : World) (e : Ending) (w' : World) : Prop :=
  Below w.heap.size w w' ∧ match r with
  | none => e = .returned (.tuple #[.slice none 0 0, .bool false, .int .i64 1])
  | some none => e = .returned (.tuple #[.slice none 0 0, .bool true, .int .i64 0])
  | some (some t) => ∃ A cap, e = .returned (.tuple #[.slice A t.length cap, .bool false, .int .i64 0]) ∧ SeqAt (Value.int .i64) w' A t ∧ (A = none → t.length = 0 ∧ cap = 0)
/-- What is to come, if it is known what follows. -/
def Will (n : Int) (f : List (List Int)) (m : List Int) : Option (Option (List Int)) → Prop
  | none => fine n f m = false
  | some r => fine n f m = true ∧ Ans m.length f m r
theorem run_will {A M : Option Addr} {f : List (List Int)} {m : List Int} {fcap mcap : Nat} {n : Int} {W : World} {r : Option (Option (List Int))} (hn : Wf n) (hf : FormAt W A f) (hfl : f.length ≤ 100000) (hcl : ∀ c ∈ f, c.length ≤ 100000) (hm : SeqAt (Value.int .i64) W M m) (hml : m.length ≤ 9223372036854775807) (hnil : M = none → m.length = 0 ∧ mcap = 0) (hr : Will n f m r) :
    Calls Tryz.prog 32 #[.int .i64 n, .slice A f.length fcap, .slice M m.length mcap] W (RunIs r W) := by
  refine (run_any n W hn hf hfl hcl hm hml hnil).mono fun e w' ⟨hb, h⟩ => ⟨hb, ?_⟩
  match r, hr with
  | none, hr =>
    rcases h with ⟨_, h⟩ | ⟨h, _⟩ | ⟨h, _⟩
    · exact h
    · rw [hr] at h; cases h
    · rw [hr] at h; cases h
  | some r, hr =>
    rcases h with ⟨h, _⟩ | ⟨_, h, he⟩ | ⟨_, t, A, cap, h, he, hs, hc⟩
    · rw [hr.1] at h; cases h
    · obtain rfl := hr.2.det h; exact he
    · obtain rfl := hr.2.det h; exact ⟨A, cap, he, hs, hc⟩
theorem will_b {n : Int} {f : List (List Int)} {m : List Int} {r : Option (List Int)} (h : (fine n f m && ansB m.length f m r) = true) : Will n f m (some r) := by
  rw [Bool.and_eq_true] at h; exact ⟨h.1, ans_b h.2⟩
/-- Run at what a law has laid. -/
theorem run_lit (w : World) (n : Int) (f : List (List Int)) (m : List Int) {r : Option (Option (List Int))} (hr : Will n f m r) (hs : (decide (-9223372036854775808 ≤ n ∧ n ≤ 9223372036854775807) && decide (f.length ≤ 100) && decide (m.length ≤ 100) && f.all fun c => decide (c.length ≤ 100) && c.all fun x => decide (-9223372036854775808 ≤ x ∧ x ≤ 9223372036854775807)) = true) :
    Calls Tryz.prog 32 #[.int .i64 n, .slice (some ⟨w.heap.size + f.length, 0, none⟩) f.length f.length, .slice (some ⟨w.heap.size + f.length + 1, 0, none⟩) m.length m.length] (((lay w f).alloc (.cells (rv w.heap.size f).toArray 37)).alloc (.cells (ints m).toArray 3)) (RunIs r w) := by
  simp only [Bool.and_eq_true, decide_eq_true_eq, List.all_eq_true] at hs
  obtain ⟨⟨⟨h1, h2⟩, h3⟩, h4⟩ := hs
  obtain ⟨b1, e1, r1⟩ := lay_ok f w (fun c hc => by have := (h4 c hc).1; omega)
  have f1 := rows_form 37 e1 r1 (fun c hc l hl => (h4 c hc).2 l hl)
  have b2 : Below ((lay w f).alloc (.cells (rv w.heap.size f).toArray 37)).heap.size ((lay w f).alloc (.cells (rv w.heap.size f).toArray 37)) (((lay w f).alloc (.cells (rv w.heap.size f).toArray 37)).alloc (.cells (ints m).toArray 3)) := (Below.refl _ _).alloc (Nat.le_refl _) _
  have b3 : Below w.heap.size w (((lay w f).alloc (.cells (rv w.heap.size f).toArray 37)).alloc (.cells (ints m).toArray 3)) := Below.plus (Below.plus b1 _) _
  have hm := vals_g (Value.int .i64) (w := (lay w f).alloc (.cells (rv w.heap.size f).toArray 37)) 3 m (g := w.heap.size + f.length + 1) (by simp [e1])
  refine (run_will (fcap := f.length) (mcap := m.length) h1 (f1.keep b2) (by omega) (fun c hc => by have := (h4 c hc).1; omega) hm (by omega) (fun h => by cases h) hr).mono fun e w' ⟨hb, h⟩ => ⟨Below.on b3 hb, h⟩
theorem run_nil (w : World) (n : Int) (m : List Int) {r : Option (Option (List Int))} (hr : Will n [] m r) (hs : (decide (-9223372036854775808 ≤ n ∧ n ≤ 9223372036854775807) && decide (m.length ≤ 100)) = true) :
    Calls Tryz.prog 32 #[.int .i64 n, .slice none 0 0, .slice (some ⟨w.heap.size, 0, none⟩) m.length m.length] (w.alloc (.cells (ints m).toArray 3)) (RunIs r w) := by
  simp only [Bool.and_eq_true, decide_eq_true_eq] at hs
  refine (run_will (f := []) (fcap := 0) (mcap := m.length) hs.1 (form_none _) (by simp) (fun c hc => by cases hc) (vals_at (Value.int .i64) w 3 m) (by omega) (fun h => by cases h) hr).mono fun e w' ⟨hb, h⟩ => ⟨Below.on (below_alloc w _) hb, h⟩
/-! ### Small -/
def sizeM (f : List (List Int)) : Nat := (f.map fun c => 1 + c.length).sum
theorem size_take {f : List (List Int)} {k : Nat} {c : List Int} (h : f[k]? = some c) : sizeM (f.take (k + 1)) = sizeM (f.take k) + 1 + c.length := by
  unfold sizeM; rw [f_take h, List.map_append, List.sum_append]; simp; omega
theorem size_le {f : List (List Int)} {c : List Int} (h : c ∈ f) : c.length + 1 ≤ sizeM f := by
  unfold sizeM
  induction f with
  | nil => cases h
  | cons d f ih =>
    rw [List.map_cons, List.sum_cons]
    rcases List.mem_cons.1 h with rfl | h
    · omega
    · have := ih h; omega
theorem size_len (f : List (List Int)) : f.length ≤ sizeM f := by
  unfold sizeM
  induction f with
  | nil => simp
  | cons d f ih => rw [List.map_cons, List.sum_cons, List.length_cons]; omega
theorem size_bd {f : List (List Int)} {N : Nat} (h : ∀ c ∈ f, c.length ≤ N) : sizeM f ≤ f.length * (N + 1) := by
  unfold sizeM
  induction f with
  | nil => simp
  | cons d f ih =>
    rw [List.map_cons, List.sum_cons, List.length_cons, Nat.succ_mul]
    have := ih (fun c hc => h c (by simp [hc]))
    have := h d (by simp)
    omega
set_option maxHeartbeats 1600000 in
theorem small_is (A : Option Addr) (f : List (List Int)) (fcap : Nat) (most : Int) (w : World) (hf : FormAt w A f) (hl : f.length ≤ 1048576) (hc : ∀ c ∈ f, c.length ≤ 1048576) :
    Calls Tryz.prog 12 #[.slice A f.length fcap, .int .i64 most] w fun e w' => e = .returned (.bool (decide ((sizeM f : Int) ≤ most))) ∧ w = w' := by
  have HF := Lib.hid hf
  have HC := Lib.hid hc
  have bd : ∀ k, sizeM (f.take k) ≤ 1099512676352 := fun k => by
    have h1 := size_bd (f := f.take k) (N := 1048576) (fun c hc' => hc c (List.mem_of_mem_take hc'))
    have h2 : (f.take k).length ≤ 1048576 := by rw [List.length_take]; omega
    have h3 := Nat.mul_le_mul_right (1048576 + 1) h2
    omega
  have BD := Lib.hid bd
  clear hf hc bd
  go_enter Tryz.func12, Tryz.ntmps12
  go_wp2_with fail
  go_loop [5, 6] (fun n i => ∃ k : Nat, k ≤ f.length ∧ i = .int .i64 k ∧ n = .int .i64 (sizeM (f.take k) : Nat)) (fun _ i => f.length - (intOf i).toNat)
  case atStart => exact ⟨0, by omega, rfl, rfl⟩
  case round =>
    obtain ⟨k, hk, rfl, rfl⟩ := hrel
    by_cases hlt : k < f.length
    · obtain ⟨c, hz⟩ : ∃ c, f[k]? = some c := ⟨_, List.getElem?_eq_getElem hlt⟩
      obtain ⟨a, C, ccap, rfl, hcell, hcs, hcl⟩ := HF.out.get k c hz
      have e := size_take hz
      have h1 := BD.out k
      have h2 := HC.out c (List.mem_of_getElem? hz)
      generalize sizeM (f.take k) = s at *
      have HE := Lib.hid e
      clear hcs hz e
      go_wp2_with fail
      go_round
      case rel => exact ⟨k + 1, by omega, by go_num, by rw [HE.out]; first | go_num | (congr 1; push_cast; omega)⟩
      case measure => simp [intOf]; omega
    · obtain rfl : f.length = k := by omega
      rw [List.take_length]
      go_wp2_with fail
      go_ret
      exact ⟨by first | rfl | (refine ret_bool ?_; rfl), rfl⟩
end Go.Proofs.YtcebpbjpbnfacaaGreat
