/-
  Values of the law's package: what all made terms are worth.
-/
import Derived.Test.YtgbmiphaabeodaaDoorTermY
import Derived.Test.YtgbmiphaabeodaaDoorTermL
namespace Go.Proofs.YtgbmiphaabeodaaDoor
open Go.ChangeShapes Go.WideShapes Go.ChangeAt Go.RowKit
set_option linter.unusedVariables false
attribute [local go_sem ↓] Go.wp_at_zero Go.wp_at_succ

theorem infoU : (Tryd.prog.info? 24).map (fun i => (i.zero, i.size, i.bytes)) = some (some (.int .u16 0), 1, 2) := by kernel_rfl
def u16s (l : List Int) : List Value := l.map (Value.int .u16)
theorem env_row {w : World} {base : Nat} {A : Option Addr} {n cap : Nat} {xs : List Int} (h : w.ownsRow base 24 1 (.slice A n cap) n (u16s xs)) (hr : ∀ v ∈ xs, 0 ≤ v ∧ v ≤ 65535) (hl : xs.length ≤ 9223372036854775807) : EnvAt w A xs := by
  have hxn : xs.length = n := by have := h.1; simpa [u16s] using this
  rcases h.2 with ⟨e, h0⟩ | ⟨g, cap', cur, e, _, hh, hn, hc, hsz, ht⟩
  · injection e with e1 _ _
    subst e1
    have : xs = [] := List.length_eq_zero_iff.1 (by omega)
    subst this
    exact ⟨fun i v hv => by simp at hv, (fun a ha => by cases ha), hr, hl⟩
  · injection e with e1 e2 e3
    subst e1
    have hx : Has w g 24 cur := hh
    refine ⟨fun i v hv => ⟨_, rfl, ?_⟩, (fun a ha => by injection ha with ha; subst ha; exact hx.lt), hr, hl⟩
    have hi : i < xs.length := (List.getElem?_eq_some_iff.1 hv).1
    have : (u16s xs)[i]? = some (.int .u16 v) := by unfold u16s; rw [List.getElem?_map, hv]; rfl
    rw [show (⟨g, 0, none⟩ : Addr).add i = ⟨g, i, none⟩ from (by simp only [Addr.add]; simp; exact fun e => e.symm), hx.cell, ← this, ← ht, List.getElem?_take_of_lt (by omega)]
    simp
/-- What all made terms are worth. -/
def vl (ns : List Nd) (ms : List Md) (env : List Int) : List Int := ms.map fun m => V ns env m.t
theorem vl_len (ns : List Nd) (ms : List Md) (env : List Int) : (vl ns ms env).length = ms.length := by simp [vl]
theorem vl_at {ns : List Nd} {ms : List Md} (env : List Int) {i : Nat} {m : Md} (h : ms[i]? = some m) : (vl ns ms env)[i]? = some (V ns env m.t) := by simp [vl, h]
theorem vl_rng {ns : List Nd} (hwf : WF ns) (ms : List Md) (env : List Int) : ∀ v ∈ vl ns ms env, 0 ≤ v ∧ v ≤ 65535 := fun v hv => by
  obtain ⟨m, _, rfl⟩ := List.mem_map.1 hv
  exact V_u16 hwf env m.t
theorem vl_take {ns : List Nd} {ms : List Md} (env : List Int) {j i : Nat} (h : j < i) : ((vl ns ms env).take i).getD j 0 = if j < ms.length then V ns env (tOf ms j) else 0 := by
  rw [List.getD_eq_getElem?_getD, List.getElem?_take_of_lt h]
  by_cases hj : j < ms.length
  · rw [if_pos hj, vl_at env (List.getElem?_eq_getElem hj), tOf_of (List.getElem?_eq_getElem hj)]; rfl
  · rw [if_neg hj, List.getElem?_eq_none (by rw [vl_len]; omega)]; rfl
structure VRel (w : World) (xs : List Int) (k : Nat) (l : Value) (wr : World) : Prop where
  own : wr.ownsRow w.heap.size 24 1 l k (u16s (xs.take k))
  below : Below w.heap.size w wr
def U16Of (w : World) (l : List Int) (e : Ending) (w' : World) : Prop := ∃ A cap, e = .returned (.slice A l.length cap) ∧ w'.ownsRow w.heap.size 24 1 (.slice A l.length cap) l.length (u16s l) ∧ Below w.heap.size w w'
set_option maxHeartbeats 1600000 in
set_option maxRecDepth 100000 in
theorem values_law (w : World) (base lcap ecap : Nat) (LA EA : Option Addr) (ns : List Nd) (ms : List Md) (env : List Int) (hrow : w.ownsRow base 38 11 (.slice LA ms.length lcap) ms.length (mdCells ms)) (hok : MadesOk ns ms) (hwf : WF ns) (henv : EnvAt w EA env) (hml : ms.length ≤ 200) :
    Calls Tryd.prog 13 #[.slice LA ms.length lcap, .slice EA env.length ecap] w (U16Of w (vl ns ms env)) := by
  obtain ⟨i0, hi0, hz0, hz1, hz2⟩ := info_parts infoU
  have HI := Lib.hid (And.intro hi0 (And.intro hz0 (And.intro hz1 hz2)))
  clear hi0 hz0 hz1 hz2
  have HX := Lib.hid (show ∀ (wr : World) (k : Nat) (VA : Option Addr) (vcap : Nat), k < ms.length → VRel w (vl ns ms env) k (.slice VA k vcap) wr → Calls Tryd.prog 32 #[.slice LA ms.length lcap, .slice VA k vcap, .int .i64 k, .slice EA env.length ecap] wr (ValPost wr ((vl ns ms env).getD k 0)) from fun wr k VA vcap hk R => by
    obtain ⟨m, hm⟩ : ∃ m, ms[k]? = some m := ⟨_, List.getElem?_eq_getElem hk⟩
    have K := hok k _ hm
    have hlen : ((vl ns ms env).take k).length = k := by rw [List.length_take, vl_len]; omega
    have hv : EnvAt wr VA ((vl ns ms env).take k) := env_row R.own (fun v hv => vl_rng hwf ms env v (List.mem_of_mem_take hv)) (by omega)
    have hr : wr.ownsRow base 38 11 (.slice LA ms.length lcap) ms.length (mdCells ms) := row_same hrow (fun b hb => by
      obtain ⟨cur, hc⟩ := row_block hrow hb
      exact R.below.block _ hc.lt)
    have he : EnvAt wr EA env := henv.keep (fun a ha => R.below.block _ (henv.lt a ha)) R.below.size
    have hmw : mayw m.w := by rw [← K.w]; exact wdt_may hwf K.t
    have hval := K.rok.val
    obtain ⟨t, ⟨op, wd, val, ra, rb, rc⟩, mw, j0, j1, j2⟩ := m
    have hp := K.p
    have c := value_law (w := wr) (base := base) (i := k) (lcap := lcap) (vcap := vcap) (ecap := ecap) (LA := LA) (VA := VA) (EA := EA) (ms := ms) (xs := (vl ns ms env).take k) (env := env) (t := t) (op := op) (wd := wd) (val := val) (ra := ra) (rb := rb) (rc := rc) (mw := mw) (i0 := j0) (i1 := j1) (i2 := j2)
      ⟨hr, hm, hv, he, hlen, hmw⟩ K.o0 K.o1 hval.1 hval.2 hp (fun h3 => by
        have h0 := (hp h3).1
        have hj : ms[j0]? = some (ms[j0]'(by simp only at h0; omega)) := List.getElem?_eq_getElem _
        rw [wOf_of hj, ← (hok j0 _ hj).w]
        exact wdt_may hwf (hok j0 _ hj).t)
    rw [hlen] at c
    have e : (vl ns ms env).getD k 0 = lv ⟨t, ⟨op, wd, val, ra, rb, rc⟩, mw, j0, j1, j2⟩ env (wOf ms j0) (((vl ns ms env).take k).getD j0 0) (((vl ns ms env).take k).getD j1 0) (((vl ns ms env).take k).getD j2 0) := by
      rw [List.getD_eq_getElem?_getD, vl_at env hm]
      show V ns env t = _
      rw [K.v env]
      refine lv_congr K.o0 fun h3 => ?_
      obtain ⟨p0, p1, p2⟩ := hp h3
      simp only at p0 p1 p2
      rw [vl_take env p0, vl_take env p1, vl_take env p2, if_pos (by omega), if_pos (by omega), if_pos (by omega)]
      exact ⟨rfl, rfl, rfl, rfl⟩
    rw [e]
    exact c)
  have HL := Lib.hid (vl_len ns ms env)
  clear hrow hok hwf henv
  generalize vl ns ms env = xs at *
  generalize env.length = el at *
  generalize hlen : ms.length = n at *
  have HN := Lib.hid hlen
  clear hlen
  go_enter Tryd.func13, Tryd.ntmps13
  go_wp2_with fail
  go_loopw [5, 6] (fun l i wr => ∃ k : Nat, k ≤ n ∧ i = .int .i64 k ∧ VRel w xs k l wr) (fun _ i _ => n - (intOf i).toNat)
  case atStart => exact ⟨0, by omega, rfl, ⟨by rw [List.take_zero]; exact ⟨rfl, .inl ⟨rfl, rfl⟩⟩, Below.refl _ _⟩⟩
  case round =>
    obtain ⟨k, hk, rfl, hrel⟩ := hrel
    obtain ⟨A, cap, rfl⟩ := row_form hrel.own
    have R := Lib.hid hrel
    clear hrel
    by_cases hlt : k < n
    · have HC := Lib.hid (HX.out wr k A cap hlt R.out)
      have HSZ : Hid (w.heap.size ≤ wr.heap.size) := R.out.below.size
      have HG := Lib.hid (show xs.take (k + 1) = xs.take k ++ [xs.getD k 0] by
        have hx : k < xs.length := by rw [HL.out]; exact hlt
        rw [List.take_succ_eq_append_getElem hx, List.getD_eq_getElem?_getD, List.getElem?_eq_getElem hx]; rfl)
      have HU := Lib.hid (show u16s (xs.take k ++ [xs.getD k 0]) = u16s (xs.take k) ++ [.int .u16 (xs.getD k 0)] by simp [u16s])
      generalize xs.getD k 0 = x at HC HG HU
      go_wp2_with (first | (go_at_call 32; refine HC.out.mono ?_; rintro e w1 ⟨rfl, hb1⟩; have HB1 := Lib.hid hb1; have HOWN1 := Lib.hid (row_same R.out.own (w' := w1) (fun b hb => by obtain ⟨cur, hc⟩ := row_block R.out.own hb; exact HB1.out.block _ hc.lt)); have HS1 : Hid (wr.heap.size ≤ w1.heap.size) := HB1.out.size; clear hb1) | (at_builtin; refine wpList_append_lies _ rfl _ _ _ rfl w.heap.size 24 i0 _ 1 2 Tryd.underlying23 HI.out.1 HI.out.2.1 HI.out.2.2.1 HI.out.2.2.2 rfl (by omega) (.slice A k cap) k (u16s (xs.take k)) rfl (HOWN1.out.alloc _) ⟨w1.heap.size, 0, none⟩ 1 1 [.int .u16 x] rfl rfl (World.news_of_block (cs := #[.int .u16 x]) (t := 24) (fr := (0, 0)) (heap_alloc_new w1 _)) (by simp [Value.oneCell']) (by omega) (by unfold maxLen; omega) (by omega) (by have := HSZ.out; have := HS1.out; simp; omega) (w1.heap.size + 1) (by simp) ?_; intro g cap' w2 hown1 hgrow hat hg1; have HO1 := Lib.hid hown1; have HG1 := Lib.hid hgrow; clear hown1 hgrow))
      go_roundw
      case rel =>
        refine ⟨k + 1, by omega, by go_num, ?_, ?_⟩
        · rw [HG.out, HU.out]; exact HO1.out
        · refine (((R.out.below.trans (HB1.out.mono HSZ.out)).alloc (by have := HSZ.out; have := HS1.out; omega) _).grown HG1.out (by have := HSZ.out; have := HS1.out; simp; omega) (fun g' hg' => ?_))
          rcases R.out.own.2 with ⟨e, _⟩ | ⟨g2, c2, cur, e, hge, _⟩
          · rw [e] at hg'; cases hg'
          · rw [e] at hg'
            have : g2 = g' := by simpa [Value.ownBlock] using hg'
            omega
      case measure => simp [intOf]; omega
    · obtain rfl : k = n := by omega
      have e := Lib.hid (show xs.take k = xs from List.take_of_length_le (by rw [HL.out]; exact Nat.le_refl _))
      go_wp2
      go_ret
      exact ⟨A, cap, by rw [HL.out]; rfl, by have := R.out.own; rw [e.out] at this; rw [HL.out]; exact this, R.out.below⟩
end Go.Proofs.YtgbmiphaabeodaaDoor
