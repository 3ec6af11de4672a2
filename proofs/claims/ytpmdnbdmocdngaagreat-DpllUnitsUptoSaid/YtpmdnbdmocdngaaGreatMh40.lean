/-
  Parts of the proof, joined: UnitR, ClauO, UnitL, DpllM.
-/
import Derived.Test.YtpmdnbdmocdngaaGreatMh39
import Derived.Test.YtpmdnbdmocdngaaGreatMh03
import Derived.ChangeSlices
import Derived.Deep.Slices
import Derived.Deep.Grids
import Derived.Deep.Matrix
import Derived.ChangeSame
import Derived.Carry

namespace Go.Proofs.YtpmdnbdmocdngaaGreat
open Go.ChangeShapes Go.WideShapes Go.ChangeAt Go.RowKit
set_option linter.unusedVariables false

def unk (x : Int) : Bool := decide (x < -1 ∨ 1 < x)
theorem unknown_any (x : Int) (W : World) : Calls Tryz.prog 56 #[.int .i64 x] W fun e W' => e = .returned (.bool (unk x)) ∧ W = W' := by
  by_cases h1 : x < -1
  · have HE := Lib.hid (show unk x = true from decide_eq_true (.inl h1))
    go_enter Tryz.func56, Tryz.ntmps56
    go_wp2
    go_ret
    exact ⟨by rw [HE.out]; (first | done | rfl), rfl⟩
  · by_cases h2 : 1 < x
    · have HE := Lib.hid (show unk x = true from decide_eq_true (.inr h2))
      go_enter Tryz.func56, Tryz.ntmps56
      go_wp2
      go_ret
      exact ⟨by rw [HE.out]; (first | done | rfl), rfl⟩
    · have HE := Lib.hid (show unk x = false from decide_eq_false (fun h => h.elim h1 h2))
      go_enter Tryz.func56, Tryz.ntmps56
      go_wp2
      go_ret
      exact ⟨by rw [HE.out]; (first | done | rfl), rfl⟩
set_option maxHeartbeats 800000 in
theorem index_unk (B : Option Addr) (c : List Int) (ccap : Nat) (W : World) (hc : SeqAt (Value.int .i64) W B c) (hn : c.length ≤ 9223372036854775807) :
    Calls Tryz.prog 83 #[.slice B c.length ccap, .func (.func 56) #[] #[]] W (IdxPost (c.any unk) W) := by
  have HC := Lib.hid hc
  have K := Lib.hid (fun l => unknown_any l W)
  clear hc
  go_enter Tryz.func83, Tryz.ntmps83
  go_wp2_with fail
  go_loop [8] (fun i => ∃ k : Nat, k ≤ c.length ∧ i = .int .i64 k ∧ Hid ((c.take k).any unk = false)) (fun i => c.length - (intOf i).toNat)
  case atStart => exact ⟨0, by omega, rfl, by simp [Hid]⟩
  case round =>
    obtain ⟨k, hk, rfl, H⟩ := hrel
    by_cases hlt : k < c.length
    · obtain ⟨l, hz⟩ : ∃ l, c[k]? = some l := ⟨_, List.getElem?_eq_getElem hlt⟩
      obtain ⟨a, rfl, hcell⟩ := HC.out.get k l hz
      have cl := K.out l
      cases hr : unk l with
      | true =>
        have HE := Lib.hid (show c.any unk = true from any_of hz hr)
        rw [hr] at cl
        clear hz hr
        go_wp2_with (go_at_call 56; ((with_reducible refine cl.mono ?_); rintro e w' ⟨rfl, rfl⟩))
        go_ret
        exact ⟨_, rfl, by rw [HE.out]; simp, rfl⟩
      | false =>
        have HE := Lib.hid (show (c.take (k + 1)).any unk = false by rw [any_take hz, H.out, hr]; rfl)
        rw [hr] at cl
        clear hz hr
        go_wp2_with (go_at_call 56; ((with_reducible refine cl.mono ?_); rintro e w' ⟨rfl, rfl⟩))
        go_round
        case rel => exact ⟨k + 1, by omega, by go_num, HE.out⟩
        case measure => simp [intOf]; omega
    · obtain rfl : k = c.length := by omega
      have HE := Lib.hid (show c.any unk = false by have := H.out; rw [List.take_length] at this; exact this)
      clear H
      go_wp2_with fail
      go_ret
      exact ⟨_, rfl, by rw [HE.out]; rfl, rfl⟩
theorem contains_unk (B : Option Addr) (c : List Int) (ccap : Nat) (W : World) (hc : SeqAt (Value.int .i64) W B c) (hn : c.length ≤ 9223372036854775807) :
    Calls Tryz.prog 55 #[.slice B c.length ccap, .func (.func 56) #[] #[]] W fun e W' => e = .returned (.bool (c.any unk)) ∧ W = W' := by
  have K := index_unk B c ccap W hc hn
  clear hc
  generalize c.any unk = r at K ⊢
  go_enter Tryz.func55, Tryz.ntmps55
  go_wp2_with (go_at_call 83; ((with_reducible refine K.mono ?_); rintro e w' ⟨k, rfl, hr, rfl⟩))
  go_ret
  exact ⟨by first | rfl | exact ret_bool hr, rfl⟩
/-- May it be gone through at all? -/
def fine (n : Int) (f : List (List Int)) (m : List Int) : Bool := mayM n f && decide ((m.length : Int) = n) && !m.any unk
/-- What Run answers. -/
def RunPost (n : Int) (f : List (List Int)) (m : List Int) (W : World) (e : Ending) (W' : World) : Prop :=
  Below W.heap.size W W' ∧
  ((fine n f m = false ∧ e = .returned (.tuple #[.slice none 0 0, .bool false, .int .i64 1])) ∨
   (fine n f m = true ∧ Ans m.length f m none ∧ e = .returned (.tuple #[.slice none 0 0, .bool true, .int .i64 0])) ∨
   (fine n f m = true ∧ ∃ t A cap, Ans m.length f m (some t) ∧ e = .returned (.tuple #[.slice A t.length cap, .bool false, .int .i64 0]) ∧ SeqAt (Value.int .i64) W' A t ∧ (A = none → t.length = 0 ∧ cap = 0)))
theorem unk_tv {m : List Int} (h : m.any unk = false) : TV m.length m := by
  refine ⟨rfl, fun i x hx => ?_⟩
  have := List.any_eq_false.1 h x (List.mem_of_getElem? hx)
  unfold unk at this
  simp at this; omega
theorem may_ok {n : Int} {f : List (List Int)} (h : mayM n f = true) (hw : ∀ c ∈ f, ∀ l ∈ c, Wf l) : 0 ≤ n ∧ n ≤ 65536 ∧ ∀ k : Nat, (k : Int) = n → FOk k f := by
  unfold mayM at h
  rw [Bool.and_eq_true] at h
  obtain ⟨h1, h2⟩ := h
  have h1 := of_decide_eq_true h1
  refine ⟨h1.1, h1.2, fun k hk c hc l hl => ?_⟩
  have h3 := (okL_ref h1.1 h1.2 (hw c hc l hl)).1 (List.all_eq_true.1 (List.all_eq_true.1 h2 c hc) l hl)
  unfold LOk; omega
theorem cls_any {n : Nat} {f : List (List Int)} {m : List Int} {r : Option (List Int)} (ok : FOk n f) (hn : n ≤ 65536) (h : Ans n (cls f) m r) : Ans n f m r := h.rests fun u hu => cls_rest ok hn hu
theorem cls_small {f : List (List Int)} {N : Nat} (h : ∀ c ∈ f, c.length ≤ N) : ∀ c ∈ cls f, c.length ≤ N := fun c hc => by
  unfold cls at hc
  obtain ⟨hc, _⟩ := List.mem_filter.1 hc
  obtain ⟨d, hd, rfl⟩ := List.mem_map.1 hc
  exact Nat.le_trans (row_len d) (h d hd)
set_option maxHeartbeats 1600000 in
theorem run_any {A M : Option Addr} {f : List (List Int)} {m : List Int} {fcap mcap : Nat} (n : Int) (W : World) (hn : Wf n) (hf : FormAt W A f) (hfl : f.length ≤ 100000) (hcl : ∀ c ∈ f, c.length ≤ 100000) (hm : SeqAt (Value.int .i64) W M m) (hml : m.length ≤ 9223372036854775807) (hnil : M = none → m.length = 0 ∧ mcap = 0) :
    Calls Tryz.prog 29 #[.int .i64 n, .slice A f.length fcap, .slice M m.length mcap] W (RunPost n f m W) := by
  have cm := may_any n A f fcap W hn hf (by omega)
  have cu := contains_unk M m mcap W hm hml
  cases h1 : mayM n f with
  | false =>
    have HE := Lib.hid (show fine n f m = false by unfold fine; rw [h1]; rfl)
    rw [h1] at cm
    clear hf hm hcl cu h1
    go_enter Tryz.func29, Tryz.ntmps29
    go_wp2_with (go_at_call 28; ((with_reducible refine cm.mono ?_); rintro e w' ⟨rfl, rfl⟩))
    go_ret3
    exact ⟨Below.refl _ _, .inl ⟨HE.out, rfl⟩⟩
  | true =>
    rw [h1] at cm
    by_cases h2 : (m.length : Int) = n
    · subst h2
      cases h3 : m.any unk with
      | true =>
        have HE := Lib.hid (show fine m.length f m = false by unfold fine; rw [h3]; simp)
        rw [h3] at cu
        clear hf hm hcl h1 h3 hn
        go_enter Tryz.func29, Tryz.ntmps29
        go_wp2_with (first | (go_at_call 28; ((with_reducible refine cm.mono ?_); rintro e w' ⟨rfl, rfl⟩)) | (go_at_call 55; ((with_reducible refine cu.mono ?_); rintro e w' ⟨rfl, rfl⟩)))
        go_ret3
        exact ⟨Below.refl _ _, .inl ⟨HE.out, rfl⟩⟩
      | false =>
        obtain ⟨_, hn2, okf⟩ := may_ok h1 hf.wf
        have hn3 : m.length ≤ 65536 := by omega
        have ok := okf m.length rfl
        have HE := Lib.hid (show fine m.length f m = true by unfold fine; rw [h1, h3]; simp)
        have cc := Lib.hid (chain_any (A := A) (M := M) (fcap := fcap) (mcap := mcap) W hf hfl hcl hm hn3 (unk_tv h3) ok hnil)
        have TVM := Lib.hid (unk_tv h3)
        have OK := Lib.hid ok
        have CL := Lib.hid hcl
        rw [h3] at cu
        clear hf hm hcl h1 h3 hn okf ok
        go_enter Tryz.func29, Tryz.ntmps29
        go_wp2_with (first | (go_at_call 28; ((with_reducible refine cm.mono ?_); rintro e w' ⟨rfl, rfl⟩)) | (go_at_call 55; ((with_reducible refine cu.mono ?_); rintro e w' ⟨rfl, rfl⟩)) | (go_at_call 57; fail))
        refine cc.out.mono ?_
        rintro e w1 ⟨p, τ, F, cv, lv, wv, tv, hv, rfl, h1, hF, b1⟩
        have hle := cls_len f
        have cf := Lib.hid (follow_any (m := m) h1 (Fw.start TVM.out) hF (cls_ok OK.out) (fun c hc => cls_nodup hc) hn3 (by omega) (cls_small CL.out))
        have LOW : Hid (∀ τ' w', Step RF τ τ' w1 w' → Below W.heap.size W w') := fun τ' w' s => b1.trans (s.below h1.base (fun k hk h => by rw [h1.low k hk] at h; simp only [RF] at h; omega))
        clear h1 hF b1 cc cm cu
        go_wp2_with fail
        refine cf.out.mono ?_
        rintro e w2 (⟨rfl, τ', t', hs', lf', hv', k, hans, s⟩ | ⟨rfl, hans, τ', s⟩)
        · have HA := Lib.hid (cls_any OK.out hn3 hans)
          have HB := Lib.hid (LOW.out _ _ s)
          have c3 : w2.cell? ⟨p, 3, none⟩ = some tv := k.blk.cell 3
          obtain ⟨tA, tcap, hform⟩ : ∃ A c, tv = .slice A t'.length c := by have := k.trow.form; rwa [List.length_map] at this
          have HSQ : Hid (SeqAt (Value.int .i64) w2 tA t' ∧ (tA = none → t'.length = 0 ∧ tcap = 0)) := by
            refine ⟨⟨fun i z hz => ?_⟩, fun e => ?_⟩
            · obtain ⟨g, c, e1, _, e2, _⟩ := k.trow.cells i (.int .i64 z) (by rw [List.getElem?_map, hz]; rfl)
              rw [hform] at e1; injection e1 with e1 _ _
              exact ⟨_, e1, by rw [add_at]; exact e2⟩
            · rcases k.trow.at with ⟨e1, e2⟩ | ⟨g, c, cur, e1, _⟩
              · rw [hform] at e1; injection e1 with _ e3 e4; exact ⟨e3, e4⟩
              · rw [hform, e] at e1; cases e1
          subst hform
          clear hans s k LOW cf
          go_wp2_with fail
          go_ret3
          exact ⟨HB.out, .inr (.inr ⟨HE.out, t', tA, tcap, HA.out, rfl, HSQ.out.1, HSQ.out.2⟩)⟩
        · have HA := Lib.hid (cls_any OK.out hn3 hans)
          have HB := Lib.hid (LOW.out _ _ s)
          clear hans s LOW cf
          go_wp2_with fail
          go_ret3
          exact ⟨HB.out, .inr (.inl ⟨HE.out, HA.out, rfl⟩)⟩
    · have HE := Lib.hid (show fine n f m = false by unfold fine; rw [decide_eq_false h2]; simp)
      have e1 : ((m.length : Int) != n) = true := by rw [bne_iff_ne]; exact h2
      have e2 : ((m.length : Int) == n) = false := by rw [beq_eq_false_iff_ne]; exact h2
      clear hf hm hcl cu h1 h2
      go_enter Tryz.func29, Tryz.ntmps29
      go_wp2_with (go_at_call 28; ((with_reducible refine cm.mono ?_); rintro e w' ⟨rfl, rfl⟩))
      go_ret3
      exact ⟨Below.refl _ _, .inl ⟨HE.out, rfl⟩⟩
end Go.Proofs.YtpmdnbdmocdngaaGreat

namespace Go.Proofs.YtpmdnbdmocdngaaGreat
open Go.ChangeShapes Go.WideShapes Go.ChangeAt Go.RowKit
set_option linter.unusedVariables false

theorem laidOut : laidOutB Tryz.prog = true := by kernel_rfl
theorem wf_of {n : Int} (h : (Lit.int .i64 n).wf = true) : Wf n := by
  simp only [Lit.wf, IntKind.min, IntKind.max, IntKind.signed, IntKind.bits, Bool.and_eq_true, decide_eq_true_eq, if_true] at h
  unfold Wf; omega
section
variable {H : Type} {enc : TypeId × Value → H} {P : Program} {W : World}
theorem slice_ok {base : Nat} {t e : TypeId} (ht : P.underlying t = some (.slice e)) {v : Value} (h : Value.okWide P W .any base t v) :
    v = .slice none 0 0 ∨ ∃ a len cap, v = .slice (some a) len cap ∧ len ≤ cap ∧ a.spot = none ∧ a.block < W.heap.size := by
  unfold Value.okWide at h
  rw [ht] at h
  simp only [Cell.okWide, ht] at h
  unfold Cell.ok at h
  rw [ht] at h
  split at h <;> first | (exact h.elim) | skip
  all_goals first | (simp at *; done) | skip
  all_goals rename_i hu
  all_goals first
    | exact .inl rfl
    | (obtain ⟨h1, _, _, hs, row, cells, hsh, _⟩ := h
       refine .inr ⟨_, _, _, rfl, h1, hs, ?_⟩
       unfold World.shape? at hsh
       split at hsh
       · rename_i hb; exact lt_of_heap hb
       · cases hsh)
/-- A value that is a formula. -/
def FormIn (W : World) (v : Value) : Prop := ∃ (A : Option Addr) (f : List (List Int)) (cap : Nat), v = .slice A f.length cap ∧ FormAt W A f ∧ f.length ≤ 9223372036854775807
theorem form_open {base : Nat} {t e q : TypeId} (ht : P.underlying t = some (.slice e)) (he : P.underlying e = some (.slice q)) (hq : P.underlying q = some (.int .i64)) (ce : P.cellsOf e = 1) (cq : P.cellsOf q = 1) {v : Value} {d : DataW H} {p : List MemPlace}
    (hok : Value.okWide P W .any base t v) (h : DataW.Trod enc P W 0 (fun _ => true) true t v d p) : FormIn W v := by
  rcases slice_ok ht hok with rfl | ⟨a, len, cap, rfl, hl, hs, hb⟩
  · exact ⟨none, [], 0, rfl, ⟨fun i c hc => by simp at hc, (fun a ha => by cases ha), (fun c hc => by cases hc)⟩, Nat.zero_le _⟩
  · obtain ⟨fuel, hf⟩ := h
    rcases Deep.open_int_rows ht he hq ce cq hf with ⟨h0, _⟩ | ⟨a', len', cap', A, L, C, Z, h1, _, hle, hm, _, hr⟩
    · simp [Value.cells] at h0
    · simp only [Value.cells, List.cons.injEq, and_true] at h1
      injection h1 with h1 h2 h3
      injection h1 with h1
      subst h1; subst h2; subst h3
      unfold maxLen at hm
      refine ⟨some a, (List.range len).map fun r => (Z r).take (L r), cap, by simp, ⟨fun i c hc => ?_, fun a' ha => by injection ha with ha; subst ha; exact hb, fun c hc l hl' => ?_⟩, by simp; omega⟩
      · have hi : i < len := by have := (List.getElem?_eq_some_iff.1 hc).1; simpa using this
        simp [hi] at hc
        obtain ⟨g1, g2, g3, g4, g5, g6, g7⟩ := hr i (by omega)
        unfold maxLen at g3
        have hcl : c.length = L i := by rw [← hc, List.length_take]; omega
        refine ⟨a, A i, C i, rfl, by rw [hcl]; exact g1, ⟨fun j z hz => ?_⟩, by omega⟩
        have hj : j < L i := by have := (List.getElem?_eq_some_iff.1 hz).1; omega
        cases hA : A i with
        | none => have := g6 hA; omega
        | some b =>
          refine ⟨b, rfl, ?_⟩
          rw [← hc, List.getElem?_take_of_lt hj] at hz
          rw [(g7 b hA).2 j (by omega), List.getD_eq_getElem?_getD, hz]; rfl
      · obtain ⟨r, hr', rfl⟩ := List.mem_map.1 hc
        exact wf_of ((hr r (by have := List.mem_range.1 hr'; omega)).2.2.2.2.1 l (List.mem_of_mem_take hl'))
end
theorem post_kept {H : Type} {enc : TypeId × Value → H} {P : Program} {f : Func} {s : ChangeSpec} {apart fresh handsOn again : Bool} {W W' : World} {args : Array Value} {v : Value} {ds gs : List (DataW H)} {before pa pv : List MemPlace}
    (hW : DataW.Whole enc P f.params.toList s.vars apart W args.toList ds gs before) (hb : Below W.heap.size W W')
    (hres : ∀ (b : Nat) (sp : Nat → Bool) (hd : Bool), DataW.TrodAll enc P W' b sp hd f.resultTypes.toList (v.resultList f.resultTypes.size) (s.fn H (ds ++ gs)).results [])
    (hargs : ∀ sp : Nat → Bool, (∀ p ∈ before, sp p.block = true) → DataW.TrodAll enc P W' 0 sp true f.params.toList args.toList (s.fn H (ds ++ gs)).args pa)
    (hvars : ∀ sp : Nat → Bool, (∀ p ∈ before, sp p.block = true) → DataW.TrodVars enc P W' sp s.vars (s.fn H (ds ++ gs)).vars pv) (hps : before = pa ++ pv)
    (hok : ∀ (j : Nat) (t : TypeId) (r : Value), f.resultTypes[j]? = some t → (v.resultList f.resultTypes.size)[j]? = some r → Value.okWide P W' .any 0 t r) : s.post enc P f apart fresh handsOn again W args v W' := by
  have lt : ∀ p ∈ before, p.block < W.heap.size := fun p hp => hW.lt p hp
  subst hps
  have Rall := hargs (fun _ => true) (fun _ _ => rfl)
  have Vall := hvars (fun _ => true) (fun _ _ => rfl)
  have Rold := hargs (fun b => decide (b < W.heap.size)) (fun p hp => decide_eq_true (lt p hp))
  have Vold := hvars (fun b => decide (b < W.heap.size)) (fun p hp => decide_eq_true (lt p hp))
  have places := hW
  obtain ⟨_, _, _, _, _, cold, single⟩ := places
  exact ⟨ds, gs, pa ++ pv, [], pa, pv, hW, hres _ _ _, Rold, Vold, World.keptBut_mono (fun p hp => ⟨hp, .inr (List.mem_append.1 hp)⟩) (hb.frame (· ∈ pa ++ pv)), fun _ =>
    ⟨hok, _, _, ([] ++ pa) ++ pv, ⟨[] ++ pa, pv, trodAll_append Rall (hres _ _ _), Vall, rfl, fun b o hp => (hb.frozen (lt _ hp)).trans (cold b o hp), single⟩, fun p hp _ => hp⟩⟩
end Go.Proofs.YtpmdnbdmocdngaaGreat

namespace Go.Proofs.YtpmdnbdmocdngaaGreat
open Go.ChangeShapes Go.WideShapes Go.ChangeAt Go.RowKit
set_option linter.unusedVariables false

/-! ### Answers, reckoned -/
def upB (t u : List Int) : Bool := (List.range t.length).all fun i => t[i]?.getD 0 == 0 || u[i]? == t[i]?
theorem up_b {t u : List Int} : upB t u = true ↔ Up t u := by
  unfold upB Up
  simp only [List.all_eq_true, List.mem_range, Bool.or_eq_true, beq_iff_eq]
  constructor
  · intro h i x hx h0
    rcases h i (List.getElem?_eq_some_iff.1 hx).1 with e | e
    · rw [hx] at e; simp at e; exact absurd e h0
    · rw [e, hx]
  · intro h i hi
    have hx : t[i]? = some t[i] := List.getElem?_eq_getElem hi
    by_cases e : t[i] = 0
    · left; rw [hx]; simpa using e
    · right; rw [hx]; exact h i _ hx e
/-! ### What a law lays -/
theorem vals_at {α : Type} (v : α → Value) (w : World) (t : TypeId) (l : List α) : SeqAt v (w.alloc (.cells (l.map v).toArray t)) (some ⟨w.heap.size, 0, none⟩) l := by
  refine ⟨fun i z hz => ⟨_, rfl, ?_⟩⟩
  rw [add_at, World.cell?_alloc_at _ _ _ _ rfl]
  simp [hz]
def RowsOK (w : World) (news : List Value) (f : List (List Int)) : Prop := news.length = f.length ∧ ∀ (i : Nat) (c : List Int), f[i]? = some c → ∃ B cap, news[i]? = some (.slice B c.length cap) ∧ SeqAt (Value.int .i64) w B c ∧ c.length ≤ 9223372036854775807
theorem rows_form {w : World} {news : List Value} {f : List (List Int)} (t : TypeId) {g : Nat} (hg : w.heap.size = g) (h : RowsOK w news f) (hw : ∀ c ∈ f, ∀ l ∈ c, Wf l) : FormAt (w.alloc (.cells news.toArray t)) (some ⟨g, 0, none⟩) f := by
  subst hg
  refine ⟨fun i c hc => ?_, fun a ha => by injection ha with ha; subst ha; simp, hw⟩
  obtain ⟨B, cap, h1, h2, h3⟩ := h.2 i c hc
  refine ⟨_, B, cap, rfl, ?_, h2.keep ((Below.refl _ _).alloc (Nat.le_refl _) _), h3⟩
  rw [add_at, World.cell?_alloc_at _ _ _ _ rfl]
  simpa using h1
def rv : Nat → List (List Int) → List Value
  | _, [] => []
  | g, c :: f => .slice (some ⟨g, 0, none⟩) c.length c.length :: rv (g + 1) f
def lay : World → List (List Int) → World
  | w, [] => w
  | w, c :: f => lay (w.alloc (.cells (ints c).toArray 3)) f
theorem lay_ok : ∀ (f : List (List Int)) (w : World), (∀ c ∈ f, c.length ≤ 9223372036854775807) → Below w.heap.size w (lay w f) ∧ (lay w f).heap.size = w.heap.size + f.length ∧ RowsOK (lay w f) (rv w.heap.size f) f
  | [], w, _ => ⟨Below.refl _ _, rfl, rfl, fun i c hc => by simp at hc⟩
  | c :: f, w, h => by
    have hs : (w.alloc (.cells (ints c).toArray 3)).heap.size = w.heap.size + 1 := by simp
    obtain ⟨h1, h2, h3⟩ := lay_ok f (w.alloc (.cells (ints c).toArray 3)) (fun d hd => h d (by simp [hd]))
    rw [hs] at h1 h2 h3
    have b0 : Below w.heap.size w (w.alloc (.cells (ints c).toArray 3)) := (Below.refl _ _).alloc (Nat.le_refl _) _
    refine ⟨b0.trans (h1.mono (by omega)), by show (lay _ f).heap.size = _; rw [h2, List.length_cons]; omega, by show (rv _ f).length + 1 = _; rw [h3.1, List.length_cons], fun i d hd => ?_⟩
    cases i with
    | zero =>
      simp at hd; subst hd
      exact ⟨_, _, rfl, (vals_at _ w 3 c).keep (by rw [hs]; exact h1), h c (by simp)⟩
    | succ i => exact h3.2 i d (by simpa using hd)
theorem form_none (w : World) : FormAt w none [] := ⟨fun i c hc => by simp at hc, (fun a ha => by cases ha), (fun c hc => by cases hc)⟩
theorem below_alloc (w : World) (o : Obj) : Below w.heap.size w (w.alloc o) := (Below.refl _ _).alloc (Nat.le_refl _) o
theorem Below.plus {w w' : World} (h : Below w.heap.size w w') (o : Obj) : Below w.heap.size w (w'.alloc o) := h.alloc h.size o
theorem Below.on {w w' w'' : World} (h : Below w.heap.size w w') (k : Below w'.heap.size w' w'') : Below w.heap.size w w'' := h.trans (k.mono h.size)

/-! ### Run -/
/-! ### Small -/
def sizeM (f : List (List Int)) : Nat := (f.map fun c => 1 + c.length).sum
theorem size_take {f : List (List Int)} {k : Nat} {c : List Int} (h : f[k]? = some c) : sizeM (f.take (k + 1)) = sizeM (f.take k) + 1 + c.length := by
  unfold sizeM; rw [f_take h, List.map_append, List.sum_append]; simp; omega
theorem size_le {f : List (List Int)} {c : List Int} (h : c ∈ f) : c.length + 1 ≤ sizeM f := by
  unfold sizeM
  induction f with
  | nil => cases h
  | cons d f ih =>
    rw [List.map_cons, List.sum_cons]
    rcases List.mem_cons.1 h with rfl | h
    · omega
    · have := ih h; omega
theorem size_len (f : List (List Int)) : f.length ≤ sizeM f := by
  unfold sizeM
  induction f with
  | nil => simp
  | cons d f ih => rw [List.map_cons, List.sum_cons, List.length_cons]; omega
theorem size_bd {f : List (List Int)} {N : Nat} (h : ∀ c ∈ f, c.length ≤ N) : sizeM f ≤ f.length * (N + 1) := by
  unfold sizeM
  induction f with
  | nil => simp
  | cons d f ih =>
    rw [List.map_cons, List.sum_cons, List.length_cons, Nat.succ_mul]
    have := ih (fun c hc => h c (by simp [hc]))
    have := h d (by simp)
    omega
set_option maxHeartbeats 1600000 in
theorem small_is (A : Option Addr) (f : List (List Int)) (fcap : Nat) (most : Int) (w : World) (hf : FormAt w A f) (hl : f.length ≤ 1048576) (hc : ∀ c ∈ f, c.length ≤ 1048576) :
    Calls Tryz.prog 9 #[.slice A f.length fcap, .int .i64 most] w fun e w' => e = .returned (.bool (decide ((sizeM f : Int) ≤ most))) ∧ w = w' := by
  have HF := Lib.hid hf
  have HC := Lib.hid hc
  have bd : ∀ k, sizeM (f.take k) ≤ 1099512676352 := fun k => by
    have h1 := size_bd (f := f.take k) (N := 1048576) (fun c hc' => hc c (List.mem_of_mem_take hc'))
    have h2 : (f.take k).length ≤ 1048576 := by rw [List.length_take]; omega
    have h3 := Nat.mul_le_mul_right (1048576 + 1) h2
    omega
  have BD := Lib.hid bd
  clear hf hc bd
  go_enter Tryz.func9, Tryz.ntmps9
  go_wp2_with fail
  go_loop [5, 6] (fun n i => ∃ k : Nat, k ≤ f.length ∧ i = .int .i64 k ∧ n = .int .i64 (sizeM (f.take k) : Nat)) (fun _ i => f.length - (intOf i).toNat)
  case atStart => exact ⟨0, by omega, rfl, rfl⟩
  case round =>
    obtain ⟨k, hk, rfl, rfl⟩ := hrel
    by_cases hlt : k < f.length
    · obtain ⟨c, hz⟩ : ∃ c, f[k]? = some c := ⟨_, List.getElem?_eq_getElem hlt⟩
      obtain ⟨a, C, ccap, rfl, hcell, hcs, hcl⟩ := HF.out.get k c hz
      have e := size_take hz
      have h1 := BD.out k
      have h2 := HC.out c (List.mem_of_getElem? hz)
      generalize sizeM (f.take k) = s at *
      have HE := Lib.hid e
      clear hcs hz e
      go_wp2_with fail
      go_round
      case rel => exact ⟨k + 1, by omega, by go_num, by rw [HE.out]; first | go_num | (congr 1; push_cast; omega)⟩
      case measure => simp [intOf]; omega
    · obtain rfl : f.length = k := by omega
      rw [List.take_length]
      go_wp2_with fail
      go_ret
      exact ⟨by first | rfl | (refine ret_bool ?_; rfl), rfl⟩
end Go.Proofs.YtpmdnbdmocdngaaGreat

namespace Go.Proofs.YtpmdnbdmocdngaaGreat
set_option linter.unusedVariables false
set_option linter.unusedSimpArgs false

/-! ### All rows of truths -/
def bitsOf (n x : Nat) : List Bool := (List.range n).map fun i => x.testBit i
def allB (n : Nat) : List (List Bool) := (List.range (2 ^ n)).map (bitsOf n)
theorem bits_len (n x : Nat) : (bitsOf n x).length = n := by simp [bitsOf]
theorem bits_at {n x i : Nat} (h : i < n) : (bitsOf n x)[i]? = some (x.testBit i) := by
  unfold bitsOf; rw [List.getElem?_map, List.getElem?_range h]; rfl
theorem bits_inj {n x y : Nat} (hx : x < 2 ^ n) (hy : y < 2 ^ n) (h : bitsOf n x = bitsOf n y) : x = y := by
  refine Nat.eq_of_testBit_eq fun i => ?_
  by_cases hi : i < n
  · have h1 := bits_at (x := x) hi
    rw [h, bits_at hi] at h1
    injection h1 with h1; exact h1.symm
  · rw [Nat.testBit_lt_two_pow (Nat.lt_of_lt_of_le hx (Nat.pow_le_pow_right (by decide) (by omega))), Nat.testBit_lt_two_pow (Nat.lt_of_lt_of_le hy (Nat.pow_le_pow_right (by decide) (by omega)))]
theorem allB_nodup (n : Nat) : (allB n).Nodup := by
  unfold allB
  exact List.pairwise_map.2 (List.Pairwise.imp_of_mem (fun hx hy hne e => hne (bits_inj (List.mem_range.1 hx) (List.mem_range.1 hy) e)) List.nodup_range)
theorem bits_all : ∀ {n : Nat} {bs : List Bool}, bs.length = n → ∃ x, x < 2 ^ n ∧ bitsOf n x = bs
  | 0, [], _ => ⟨0, by decide, rfl⟩
  | n + 1, b :: bs, h => by
    obtain ⟨x, hx, e⟩ := bits_all (n := n) (bs := bs) (by simpa using h)
    refine ⟨2 * x + b.toNat, by cases b <;> simp [Nat.pow_succ] <;> omega, ?_⟩
    refine List.ext_getElem? fun i => ?_
    by_cases hi : i < n + 1
    · rw [bits_at hi]
      cases i with
      | zero => cases b <;> simp [Nat.testBit_zero] <;> omega
      | succ i =>
        rw [Nat.testBit_succ, show (2 * x + b.toNat) / 2 = x by cases b <;> simp <;> omega, List.getElem?_cons_succ, ← e, bits_at (by omega)]
    · rw [List.getElem?_eq_none (by rw [bits_len]; omega), List.getElem?_eq_none (by simp at h ⊢; omega)]
theorem mem_allB {n : Nat} {bs : List Bool} : bs ∈ allB n ↔ bs.length = n := by
  unfold allB
  rw [List.mem_map]
  constructor
  · rintro ⟨x, _, rfl⟩; exact bits_len n x
  · intro h
    obtain ⟨x, hx, e⟩ := bits_all h
    exact ⟨x, List.mem_range.2 hx, e⟩
/-! ### Truths as numbers, and formulas under them -/
def uOf (bs : List Bool) : List Int := bs.map fun b => if b then 1 else -1
theorem u_len (bs : List Bool) : (uOf bs).length = bs.length := by simp [uOf]
theorem u_at {bs : List Bool} {i : Nat} {b : Bool} (h : bs[i]? = some b) : (uOf bs)[i]? = some (if b then 1 else -1) := by unfold uOf; rw [List.getElem?_map, h]; rfl
theorem u_tv {n : Nat} {bs : List Bool} (h : bs.length = n) : TV n (uOf bs) := by
  refine ⟨by rw [u_len, h], fun i x hx => ?_⟩
  unfold uOf at hx
  rw [List.getElem?_map] at hx
  obtain ⟨b, _, rfl⟩ := Option.map_eq_some_iff.1 hx
  cases b <;> simp
theorem holds_wo {n : Nat} {bs : List Bool} {l : Int} (hb : bs.length = n) (ok : LOk n l) (hn : n ≤ 65536) : holdsM bs l = true ↔ wo (uOf bs) l = 1 := by
  obtain ⟨i, hi, hl⟩ := ok.form
  obtain ⟨b, hbi⟩ : ∃ b, bs[i]? = some b := ⟨_, List.getElem?_eq_getElem (by omega)⟩
  rcases hl with rfl | rfl
  · have hnb : numb ((i : Int) + 1) = (i : Int) + 1 := numb_pos (by omega)
    rw [holds_one bs _ i b hnb (by rw [hbi]; rfl), decide_eq_true (by omega), wo_pos, u_at hbi]
    cases b <;> simp
  · have hnb : numb (-((i : Int) + 1)) = (i : Int) + 1 := by rw [numb_neg (by omega) (by omega)]; omega
    rw [holds_one bs _ i b hnb (by rw [hbi]; rfl), decide_eq_false (by omega), wo_neg, u_at hbi]
    cases b <;> simp
theorem eval_iff {n : Nat} {f : List (List Int)} {bs : List Bool} (hb : bs.length = n) (ok : FOk n f) (hn : n ≤ 65536) : evalM bs f = true ↔ ∀ c ∈ f, ∃ x ∈ c, wo (uOf bs) x = 1 := by
  unfold evalM evalC
  rw [List.all_eq_true]
  constructor
  · intro h c hc
    obtain ⟨x, hx, e⟩ := List.any_eq_true.1 (h c hc)
    exact ⟨x, hx, (holds_wo hb (ok c hc x hx) hn).1 e⟩
  · intro h c hc
    obtain ⟨x, hx, e⟩ := h c hc
    exact List.any_eq_true.2 ⟨x, hx, (holds_wo hb (ok c hc x hx) hn).2 e⟩
theorem eval_rests {n : Nat} {f : List (List Int)} {bs : List Bool} (hb : bs.length = n) (ok : FOk n f) (hn : n ≤ 65536) (h : evalM bs f = true) : Rest f (uOf bs) := fun c hc => .inl ((eval_iff hb ok hn).1 h c hc)
/-! ### Solutions that go on from what is assigned -/
def sols (n : Nat) (f : List (List Int)) (t : List Int) : List (List Bool) := (allB n).filter fun bs => evalM bs f && upB t (uOf bs)
theorem mem_sols {n : Nat} {f : List (List Int)} {t : List Int} {bs : List Bool} : bs ∈ sols n f t ↔ bs.length = n ∧ evalM bs f = true ∧ Up t (uOf bs) := by
  unfold sols
  rw [List.mem_filter, mem_allB, Bool.and_eq_true, up_b]
theorem sols_none {n : Nat} {f : List (List Int)} {m : List Int} (ok : FOk n f) (hn : n ≤ 65536) (h : Ans n f m none) : sols n f m = [] :=
  List.eq_nil_iff_forall_not_mem.2 fun bs hb => by
    obtain ⟨h1, h2, h3⟩ := mem_sols.1 hb
    exact h _ (u_tv h1) h3 (eval_rests h1 ok hn h2)
theorem sols_same {n : Nat} {f : List (List Int)} {m t : List Int} (ok : FOk n f) (hn : n ≤ 65536) (h : Ans n f m (some t)) : sols n f m = sols n f t := by
  unfold sols
  refine List.filter_congr fun bs hb => ?_
  have hl := mem_allB.1 hb
  cases he : evalM bs f with
  | false => rfl
  | true =>
    rw [Bool.true_and, Bool.true_and, Bool.eq_iff_iff, up_b, up_b]
    exact ⟨fun k => h.2.2.2 _ (u_tv hl) k (eval_rests hl ok hn he), fun k => h.2.1.trans k⟩
theorem sols_zeros {n : Nat} {f : List (List Int)} : sols n f (List.replicate n 0) = (allB n).filter (evalM · f) := by
  unfold sols
  refine List.filter_congr fun bs _ => ?_
  have : upB (List.replicate n 0) (uOf bs) = true := up_b.2 fun i x hx h0 => by
    rw [List.getElem?_replicate] at hx
    split at hx
    · injection hx with hx; exact absurd hx.symm h0
    · cases hx
  rw [this, Bool.and_true]
theorem filter_split {α : Type} (p q : α → Bool) : ∀ l : List α, (l.filter p).length = (l.filter fun x => p x && q x).length + (l.filter fun x => p x && !q x).length
  | [] => rfl
  | a :: l => by
    have ih := filter_split p q l
    simp only [List.filter_cons]
    cases p a <;> cases q a <;> simp <;> omega
/-- One number that is open, tried both ways. -/
theorem sols_both {n : Nat} {f : List (List Int)} {t : List Int} {l : Int} (ht : TV n t) (ok : LOk n l) (h0 : wo t l = 0) : (sols n f t).length = (sols n f (setL t l)).length + (sols n f (setL t (-l))).length := by
  have key : ∀ k : Int, LOk n k → wo t k = 0 → sols n f (setL t k) = (allB n).filter fun bs => (evalM bs f && upB t (uOf bs)) && decide (wo (uOf bs) k = 1) := fun k okk hk => by
    unfold sols
    refine List.filter_congr fun bs hb => ?_
    rw [Bool.and_assoc]
    congr 1
    rw [Bool.eq_iff_iff, Bool.and_eq_true, up_b, up_b, decide_eq_true_iff]
    have hu := u_tv (mem_allB.1 hb)
    constructor
    · intro h
      exact ⟨(setL_up ht okk hk).trans h, by rw [h.wo (by rw [setL_one ht okk]; decide), setL_one ht okk]⟩
    · rintro ⟨h1, h2⟩ i x hx hx0
      rw [setL_get ht okk] at hx
      split at hx
      · rename_i e
        subst e
        rw [← hx, wo_at hu okk, h2]; simp
      · exact h1 i x hx hx0
  rw [key l ok h0, key (-l) ok.neg (by rw [wo_opp ok, h0]; rfl)]
  unfold sols
  rw [filter_split (fun bs => evalM bs f && upB t (uOf bs)) (fun bs => decide (wo (uOf bs) l = 1))]
  congr 2
  refine List.filter_congr fun bs hb => ?_
  congr 1
  have hu := u_tv (mem_allB.1 hb)
  have hne : wo (uOf bs) l ≠ 0 := by
    obtain ⟨i, hi, e⟩ := ok.form
    obtain ⟨b, hbi⟩ : ∃ b, bs[i]? = some b := ⟨_, List.getElem?_eq_getElem (by rw [mem_allB.1 hb]; exact hi)⟩
    rcases e with rfl | rfl
    · rw [wo_pos, u_at hbi]; cases b <;> simp
    · rw [wo_neg, u_at hbi]; cases b <;> simp
  rw [wo_opp ok]
  rcases wo_cases hu l with e | e | e
  · rw [e]; decide
  · exact absurd e hne
  · rw [e]; decide
/-- Where nothing is open there is one row of truths at most. -/
theorem sols_full {n : Nat} {f : List (List Int)} {t : List Int} (ht : TV n t) (hz : t.count 0 = 0) (ok : FOk n f) (hn : n ≤ 65536) (hr : Rest f t) : sols n f t = [t.map fun x => x == 1] := by
  have hnz : ∀ x ∈ t, x ≠ 0 := fun x hx e => by
    have := List.count_pos_iff.2 (e ▸ hx : (0 : Int) ∈ t); omega
  have hlen : (t.map fun x => x == 1).length = n := by rw [List.length_map, ht.1]
  have hu : uOf (t.map fun x => x == 1) = t := by
    refine List.ext_getElem? fun i => ?_
    unfold uOf
    rw [List.map_map, List.getElem?_map]
    cases e : t[i]? with
    | none => rfl
    | some x =>
      have h1 := ht.2 i x e
      have h2 := hnz x (List.mem_of_getElem? e)
      rcases h1 with rfl | rfl | rfl
      · rfl
      · exact absurd rfl h2
      · rfl
  have hev : evalM (t.map fun x => x == 1) f = true := (eval_iff hlen ok hn).2 fun c hc => by
    rw [hu]
    rcases hr c hc with h | ⟨x, hx, y, hy, _, h1, _⟩
    · exact h
    · have hat := wo_at ht (ok c hc x hx)
      rw [h1] at hat
      simp at hat
      exact absurd rfl (hnz 0 (List.mem_of_getElem? hat))
  have hmem : ∀ bs, bs ∈ sols n f t ↔ bs = t.map fun x => x == 1 := fun bs => by
    rw [mem_sols]
    constructor
    · rintro ⟨h1, _, h3⟩
      refine List.ext_getElem? fun i => ?_
      rw [List.getElem?_map]
      by_cases hi : i < n
      · obtain ⟨x, hx⟩ : ∃ x, t[i]? = some x := ⟨_, List.getElem?_eq_getElem (by rw [ht.1]; exact hi)⟩
        obtain ⟨b, hb⟩ : ∃ b, bs[i]? = some b := ⟨_, List.getElem?_eq_getElem (by omega)⟩
        have h4 := h3 i x hx (hnz x (List.mem_of_getElem? hx))
        rw [u_at hb] at h4
        injection h4 with h4
        rw [hx, hb]
        cases b <;> simp at h4 <;> subst h4 <;> rfl
      · rw [List.getElem?_eq_none (by omega), List.getElem?_eq_none (by rw [ht.1]; omega)]; rfl
    · rintro rfl
      exact ⟨hlen, hev, by rw [hu]; exact Up.refl t⟩
  have hnd : (sols n f t).Nodup := (allB_nodup n).sublist List.filter_sublist
  match e : sols n f t, hnd, hmem with
  | [], _, hmem => exact absurd ((hmem _).2 rfl) (by simp)
  | [a], _, hmem => rw [(hmem a).1 (by simp)]
  | a :: b :: s, hnd, hmem =>
    have h1 := (hmem a).1 (by simp)
    have h2 := (hmem b).1 (by simp)
    subst h1
    rw [h2] at hnd
    simp at hnd
end Go.Proofs.YtpmdnbdmocdngaaGreat
