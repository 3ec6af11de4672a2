/-
  What an arena answers where a term is asked for: Const, Var and made of package term. Each keeps the terms that there are and puts at most one behind them.
-/
import Derived.Test.YtgbmiphaabeodaaDoorTermAdd
namespace Go.Proofs.YtgbmiphaabeodaaDoor
open Go.ChangeShapes Go.WideShapes Go.ChangeAt Go.RowKit
set_option linter.unusedVariables false
attribute [local go_sem ↓] Go.wp_at_zero Go.wp_at_succ

theorem add_any (w : World) (ab : Nat) (ns : List Nd) (foot : Nat → Prop) (nv iv mv : Value) (vs : List Int) (n : Nd) (h : ArAt w ab ns foot nv iv mv vs) (hn : NW ns n) (hnn : NormN ns n) (hl : ns.length < 65536) :
    Calls Tryd.prog 36 #[ptr ab, n.ag] w fun e w' => ∃ x : Int, e = .returned (.tuple #[.int .i64 x, .int .i64 0]) ∧ AddPost w ab ns foot vs n x w' := by
  by_cases hi : ∃ i : Nat, ns[i]? = some n
  · obtain ⟨i, hi⟩ := hi
    exact (add_found w ab ns foot nv iv mv vs n i h hi).mono fun e w' k => ⟨_, k⟩
  · have hno : ∀ i : Nat, ns[i]? ≠ some n := fun i e => hi ⟨i, e⟩
    rcases h.found with ⟨rfl, hnil⟩ | ⟨b, D, rfl, hfb, ho, hM⟩
    · exact (add_nil w ab ns foot nv iv vs n h hnil hn hnn hl).mono fun e w' k => ⟨_, k⟩
    · exact (add_some w ab ns foot nv iv b D vs n h hfb ho hM hn hnn hno hl).mono fun e w' k => ⟨_, k⟩
/-- The arena with more terms behind those that it had; nothing else has changed. -/
structure Step (w : World) (ab : Nat) (ns : List Nd) (foot : Nat → Prop) (w' : World) (ns' : List Nd) (foot' : Nat → Prop) : Prop where
  ar : Ar w' ab ns' foot'
  kept : Kept foot w w'
  foot_ : ∀ k, foot' k → foot k ∨ w.heap.size ≤ k
  ext : ∃ l, ns' = ns ++ l
  len : ns'.length ≤ ns.length + 1
def Got (w : World) (ab : Nat) (ns : List Nd) (foot : Nat → Prop) (w' : World) (P : List Nd → Prop) : Prop := ∃ ns' foot', Step w ab ns foot w' ns' foot' ∧ P ns'
theorem Step.refl {w : World} {ab : Nat} {ns : List Nd} {foot : Nat → Prop} (h : Ar w ab ns foot) : Step w ab ns foot w ns foot := ⟨h, Kept.refl _ _, fun k hk => .inl hk, ⟨[], by simp⟩, by omega⟩
theorem Step.below {w w' : World} {ab : Nat} {ns : List Nd} {foot : Nat → Prop} (h : Ar w ab ns foot) (k : Below w.heap.size w w') : Step w ab ns foot w' ns foot := ⟨h.below k, Kept.of_below k, fun k hk => .inl hk, ⟨[], by simp⟩, by omega⟩
/-- A step behind what only reads. -/
theorem Step.behind {w w1 w' : World} {ab : Nat} {ns ns' : List Nd} {foot foot' : Nat → Prop} (k : Below w.heap.size w w1) (h : Step w1 ab ns foot w' ns' foot') : Step w ab ns foot w' ns' foot' :=
  ⟨h.ar, (Kept.of_below k).trans h.kept (fun _ _ h => h), fun b hb => by
    rcases h.foot_ b hb with h | h
    · exact .inl h
    · exact .inr (Nat.le_trans k.size h), h.ext, h.len⟩
theorem Step.ahead {w w1 w' : World} {ab : Nat} {ns ns' : List Nd} {foot foot' : Nat → Prop} (h : Step w ab ns foot w1 ns' foot') (k : Below w1.heap.size w1 w') : Step w ab ns foot w' ns' foot' :=
  ⟨h.ar.below k, h.kept.trans (Kept.of_below (S := no) k) (fun _ _ h => h.elim), h.foot_, h.ext, h.len⟩
theorem Got.behind {w w1 w' : World} {ab : Nat} {ns : List Nd} {foot : Nat → Prop} {P : List Nd → Prop} (k : Below w.heap.size w w1) (h : Got w1 ab ns foot w' P) : Got w ab ns foot w' P := by
  obtain ⟨ns', foot', h, p⟩ := h
  exact ⟨ns', foot', h.behind k, p⟩
theorem vars_snoc {ns : List Nd} {vs : List Int} {n : Nd} (h : VarIs ns vs) (hn : n.op ≠ 2) : VarIs (ns ++ [n]) vs := by
  refine ⟨h.1, fun id hid => ?_⟩
  rcases h.2 id hid with ⟨h0, h1⟩ | ⟨i, m, hi, ho, hv, hs, hu⟩
  · refine .inl ⟨h0, fun i m hi ho => ?_⟩
    rcases at_snoc hi with hi | ⟨_, rfl⟩
    · exact h1 i m hi ho
    · exact absurd ho hn
  · refine .inr ⟨i, m, snoc_at hi, ho, hv, hs, fun j k hj hk hkv => ?_⟩
    rcases at_snoc hj with hj | ⟨_, rfl⟩
    · exact hu j k hj hk hkv
    · exact absurd hk hn
/-- No Var is new. -/
def NV (ns ns' : List Nd) : Prop := ∀ (i : Nat) (m : Nd), ns'[i]? = some m → m.op = 2 → ns[i]? = some m
theorem NV.refl (ns : List Nd) : NV ns ns := fun _ _ h _ => h
theorem NV.snoc {ns : List Nd} {n : Nd} (hn : n.op ≠ 2) : NV ns (ns ++ [n]) := fun i m hi ho => by
  rcases at_snoc hi with hi | ⟨_, rfl⟩
  · exact hi
  · exact absurd ho hn
/-- One more term at most, and that is x. -/
def One (ns ns' : List Nd) (x : Int) : Prop := ns' = ns ∨ ((∃ m, ns' = ns ++ [m]) ∧ x = (ns.length : Int) + 1)
theorem one_of {ns ns' : List Nd} {n : Nd} {x : Int} (hx : nd ns' x = some n) (h : ns' = ns ∨ (ns' = ns ++ [n] ∧ ∀ i : Nat, ns[i]? ≠ some n)) : One ns ns' x := by
  rcases h with rfl | ⟨rfl, hno⟩
  · exact .inl rfl
  · refine .inr ⟨⟨n, rfl⟩, ?_⟩
    obtain ⟨h0, h1, h2⟩ := nd_pos hx
    rw [List.length_append, List.length_singleton] at h1
    by_cases hl : (x - 1).toNat < ns.length
    · rw [List.getElem?_append_left hl] at h2
      exact absurd h2 (hno _)
    · omega
theorem norm_leaf {ns : List Nd} {n : Nd} (h : n.op = 1 ∨ n.op = 2) : NormN ns n := ⟨fun h3 => by omega, fun e => by omega, fun e => by omega, fun e => by omega⟩
theorem AddPost.got {w w' : World} {ab : Nat} {ns : List Nd} {foot : Nat → Prop} {vs : List Int} {n : Nd} {x : Int} (h : AddPost w ab ns foot vs n x w') (hv : VarIs ns vs) (hn : n.op ≠ 2) : Got w ab ns foot w' (fun ns' => nd ns' x = some n ∧ NV ns ns' ∧ One ns ns' x) := by
  obtain ⟨ns', foot', nv, iv, mv, ha, hk, hf, hx, hc⟩ := h
  have HO := one_of hx hc
  rcases hc with rfl | ⟨rfl, _⟩
  · exact ⟨ns', foot', ⟨⟨nv, iv, mv, vs, hv, ha⟩, hk, hf, ⟨[], by simp⟩, by omega⟩, hx, NV.refl _, HO⟩
  · exact ⟨_, foot', ⟨⟨nv, iv, mv, vs, vars_snoc hv hn, ha⟩, hk, hf, ⟨[n], rfl⟩, by simp⟩, hx, NV.snoc hn, HO⟩

theorem ptr_nil (w : World) (ab : Nat) : (binOp .eql 26 (ptr ab) (.pointer none)).run Tryd.prog w = .ok (.bool false) w := by kernel_rfl
theorem const_yes (w : World) (ab : Nat) (ns : List Nd) (foot : Nat → Prop) (wd v : Int) (h : Ar w ab ns foot) (hl : ns.length < 65536) (hw : mayw wd) (v0 : 0 ≤ v) (v1 : v ≤ 65535) :
    Calls Tryd.prog 17 #[ptr ab, .int .i64 wd, .int .u16 v] w fun e w' => ∃ x : Int, e = .returned (.tuple #[.int .i64 x, .int .i64 0]) ∧ Got w ab ns foot w' (fun ns' => nd ns' x = some ⟨1, wd, low wd v, 0, 0, 0⟩ ∧ NV ns ns' ∧ One ns ns' x) := by
  have E := Lib.hid (u16_mask hw v v0 v1)
  obtain ⟨l0, l1, l2⟩ := low_bd hw v
  have N : NW ns ⟨1, wd, low wd v, 0, 0, 0⟩ := by refine ⟨hw, ?_, ?_, ?_, ?_, ?_, l0, l1, fun _ => ⟨l2, rfl, rfl, rfl⟩, ?_, ?_, ?_, ?_, ?_⟩ <;> simp [part]
  obtain ⟨nv, iv, mv, vs, hv, ha⟩ := h
  have HA := Lib.hid (add_any w ab ns foot nv iv mv vs _ ha N (norm_leaf (.inl rfl)) hl)
  have HV := Lib.hid hv
  have e : bits .and .u16 v (mask wd) = low wd v := E.out
  clear ha hv hl N l0 l1 l2
  go_enter Tryd.func17, Tryd.ntmps17
  go_wp2_with (first | (go_at_call 35; refine (may_yes _ _ hw).mono ?_; rintro e w' ⟨rfl, rfl⟩) | (go_at_call 37; refine (mask_yes _ _ hw).mono ?_; rintro e w' ⟨rfl, rfl⟩) | (go_at_call 36; refine HA.out.mono ?_; rintro e w' ⟨x, rfl, hp⟩; have HP := Lib.hid hp; clear hp))
  go_ret2
  exact ⟨x, rfl, HP.out.got HV.out (show (1 : Int) ≠ 2 by decide)⟩
theorem const_no (w : World) (ab : Nat) (wd v : Int) (hw : ¬ mayw wd) :
    Calls Tryd.prog 17 #[ptr ab, .int .i64 wd, .int .u16 v] w fun e w' => e = .returned (.tuple #[.int .i64 0, .int .i64 2]) ∧ w = w' := by
  go_enter Tryd.func17, Tryd.ntmps17
  go_wp2_with (go_at_call 35; refine (may_no _ _ hw).mono ?_; rintro e w' ⟨rfl, rfl⟩)
  go_ret2
  exact ⟨rfl, rfl⟩
/-! ### Var -/
theorem arr_var (a b c : Value) (vs : List Int) (id : Nat) (x : Int) : (arr a b c vs).setIfInBounds (3 + id) (.int .i64 x) = arr a b c (vs.set id x) := by
  have : 3 + id = id + 1 + 1 + 1 := by omega
  simp [arr, this, List.map_set]
theorem ArAt.setvar {w : World} {ab : Nat} {ns : List Nd} {foot : Nat → Prop} {nv iv mv : Value} {vs : List Int} (h : ArAt w ab ns foot nv iv mv vs) (id : Nat) (x : Int) : ArAt (w.setCell ⟨ab, 3 + id, none⟩ (.int .i64 x)) ab ns foot nv iv mv (vs.set id x) := by
  have far : ∀ b, b ≠ ab → (w.setCell ⟨ab, 3 + id, none⟩ (.int .i64 x)).heap[b]? = w.heap[b]? := fun b hb => set_other (p := ⟨ab, 3 + id, none⟩) hb
  have hs : (w.setCell ⟨ab, 3 + id, none⟩ (.int .i64 x)).heap.size = w.heap.size := by simp [World.setCell]
  refine ⟨?_, h.fab, fun k hk => by rw [hs]; exact h.lt k hk, row_same h.nrow (fun g hg => far g ?_), row_same h.irow (fun g hg => far g ?_), h.fn, h.fi, ?_, h.wf, h.once, h.sz, h.nrm⟩
  · have := h.blk.put (3 + id) (.int .i64 x); rwa [arr_var] at this
  · obtain ⟨cur, hr⟩ := row_block h.nrow hg; exact hr.unlike h.blk (by decide)
  · obtain ⟨cur, hr⟩ := row_block h.irow hg; exact hr.unlike h.blk (by decide)
  · rcases h.found with h0 | ⟨b, D, e, hf, ho, hm⟩
    · exact .inl h0
    · exact .inr ⟨b, D, e, hf, ownsMap_same ho (far b (not_map ho h.blk)), hm⟩
theorem var_node {ns : List Nd} {m : Nd} {wd id : Int} (h : NW ns m) (ho : m.op = 2) (hv : m.val = id) (hw : m.w = wd) : m = ⟨2, wd, id, 0, 0, 0⟩ := by
  obtain ⟨_, ha, hb, hc⟩ := h.two ho
  cases m
  simp_all
theorem vars_set {ns ns' : List Nd} {vs : List Int} {wd : Int} {id : Nat} {x : Int} (hwf : WF ns) (h : VarIs ns vs) (hid : id < 64) (hw : ∀ (i : Nat) (m : Nd), ns[i]? = some m → m.op = 2 → m.val = (id : Int) → m.w = wd)
    (honce : ∀ (i j : Nat) (n : Nd), ns'[i]? = some n → ns'[j]? = some n → i = j) (hx : nd ns' x = some ⟨2, wd, id, 0, 0, 0⟩) (hc : ns' = ns ∨ (ns' = ns ++ [⟨2, wd, id, 0, 0, 0⟩] ∧ ∀ i : Nat, ns[i]? ≠ some ⟨2, wd, id, 0, 0, 0⟩)) :
    VarIs ns' (vs.set id x) := by
  refine ⟨by rw [List.length_set]; exact h.1, fun k hk => ?_⟩
  obtain ⟨x1, x2, x3⟩ := nd_pos hx
  have hxx : x = (((x - 1).toNat : Nat) : Int) + 1 := by omega
  by_cases e : k = id
  · subst e
    refine .inr ⟨(x - 1).toNat, _, x3, rfl, rfl, ?_, fun j m hj ho hv => ?_⟩
    · rw [List.getElem?_set_self (by rw [h.1]; exact hk)]; exact congrArg some hxx
    · rcases hc with rfl | ⟨rfl, hno⟩
      · have := var_node (hwf.at_ hj) ho hv (hw j m hj ho hv)
        subst this
        exact honce j _ _ hj x3
      · rcases at_snoc hj with hj | ⟨rfl, rfl⟩
        · have := var_node (hwf.at_ hj) ho hv (hw j m hj ho hv)
          subst this
          exact absurd hj (hno j)
        · rcases at_snoc x3 with x3 | ⟨e, _⟩
          · exact absurd x3 (hno _)
          · exact e.symm
  · have hne : (vs.set id x)[k]? = vs[k]? := List.getElem?_set_ne (fun e' => e e'.symm)
    rcases h.2 k hk with ⟨h0, h1⟩ | ⟨i, m, hi, ho, hv, hs, hu⟩
    · refine .inl ⟨hne.trans h0, fun i m hi ho => ?_⟩
      rcases hc with rfl | ⟨rfl, _⟩
      · exact h1 i m hi ho
      · rcases at_snoc hi with hi | ⟨_, rfl⟩
        · exact h1 i m hi ho
        · show (id : Int) ≠ k; omega
    · have hu' : ∀ (j : Nat) (m' : Nd), ns'[j]? = some m' → m'.op = 2 → m'.val = (k : Int) → j = i := fun j m' hj ho' hv' => by
        rcases hc with rfl | ⟨rfl, _⟩
        · exact hu j m' hj ho' hv'
        · rcases at_snoc hj with hj | ⟨_, rfl⟩
          · exact hu j m' hj ho' hv'
          · exact absurd (show (id : Int) = k from hv') (by omega)
      refine .inr ⟨i, m, ?_, ho, hv, hne.trans hs, hu'⟩
      rcases hc with rfl | ⟨rfl, _⟩
      · exact hi
      · exact snoc_at hi
/-- No Var is new but this one. -/
def NVV (ns ns' : List Nd) (n : Nd) : Prop := ∀ (i : Nat) (m : Nd), ns'[i]? = some m → m.op = 2 → ns[i]? = some m ∨ m = n
theorem nvv_of {ns ns' : List Nd} {n : Nd} (hc : ns' = ns ∨ (ns' = ns ++ [n] ∧ ∀ i : Nat, ns[i]? ≠ some n)) : NVV ns ns' n := fun i m hi _ => by
  rcases hc with rfl | ⟨rfl, _⟩
  · exact .inl hi
  · rcases at_snoc hi with hi | ⟨_, e⟩
    · exact .inl hi
    · exact .inr e
theorem var_yes (w : World) (ab : Nat) (ns : List Nd) (foot : Nat → Prop) (wd : Int) (id : Nat) (h : Ar w ab ns foot) (hl : ns.length < 65536) (hw : mayw wd) (hid : id < 64) (hsame : ∀ (i : Nat) (m : Nd), ns[i]? = some m → m.op = 2 → m.val = (id : Int) → m.w = wd) :
    Calls Tryd.prog 19 #[ptr ab, .int .i64 wd, .int .i64 id] w fun e w' => ∃ x : Int, e = .returned (.tuple #[.int .i64 x, .int .i64 0]) ∧ Got w ab ns foot w' (fun ns' => nd ns' x = some ⟨2, wd, id, 0, 0, 0⟩ ∧ NVV ns ns' ⟨2, wd, id, 0, 0, 0⟩ ∧ One ns ns' x) := by
  have N : NW ns ⟨2, wd, id, 0, 0, 0⟩ := by refine ⟨hw, ?_, ?_, ?_, ?_, ?_, ?_, ?_, ?_, ?_, ?_, ?_, ?_, ?_⟩ <;> simp [part] <;> omega
  have hwu : IntKind.u16.wrap (id : Int) = id := by rw [IntKind.wrap_u16]; omega
  have hid' : (id : Int) < 64 := by omega
  have HAr := Lib.hid h
  obtain ⟨nv, iv, mv, vs, hv, ha⟩ := h
  have HA := Lib.hid (add_any w ab ns foot nv iv mv vs _ ha N (norm_leaf (.inr rfl)) hl)
  have HV := Lib.hid hv
  have HWF := Lib.hid ha.wf
  have hblt := ha.blk.lt
  have HB := Lib.hid ha.blk
  have hvid : ∃ vid : Int, vs[id]? = some vid ∧ (vid = 0 ∨ wdt ns vid = wd) := by
    rcases hv.2 id hid with ⟨h0, _⟩ | ⟨i, m, hi, ho, hmv, hs, _⟩
    · exact ⟨0, h0, .inl rfl⟩
    · exact ⟨_, hs, .inr (by rw [wdt_of (nd_cast hi)]; exact hsame i m hi ho hmv)⟩
  obtain ⟨vid, hvs, hvw⟩ := hvid
  have cv : w.cell? ⟨ab, 3 + id, none⟩ = some (.int .i64 vid) := by
    rw [HB.out.cell (3 + id)]
    have : 3 + id = id + 1 + 1 + 1 := by omega
    simp [arr, this, hvs]
  have HS := Lib.hid hsame
  have HVS := Lib.hid hvs
  have HFAB := Lib.hid ha.fab
  have HAT := Lib.hid ha
  have HN := Lib.hid N
  have HL := Lib.hid hl
  have HWD := fun W (k : Ar W ab ns foot) => Lib.hid (width_any W ab ns foot vid k)
  clear hv ha N hl hsame hvs
  rcases hvw with rfl | hvw
  · go_enter Tryd.func19, Tryd.ntmps19
    go_wp2_with (first | (go_at_call 35; refine (may_yes _ _ hw).mono ?_; rintro e w' ⟨rfl, rfl⟩) | (go_at_call 36; refine HA.out.mono ?_; rintro e w1 ⟨x, rfl, ns', foot', nv', iv', mv', ha', hp'⟩; have HP := Lib.hid hp'; have HA1 := Lib.hid ha'; have cv1 : w1.cell? ⟨ab, 3 + id, none⟩ = some (.int .i64 0) := (by rw [ha'.blk.cell (3 + id), show 3 + id = id + 1 + 1 + 1 by omega]; simp [arr, HVS.out]); have fr1 : ∀ i, w1.frozen? ⟨ab, i, none⟩ = false := ha'.blk.free; clear hp' ha'))
    go_ret2
    refine ⟨x, rfl, ns', foot', ⟨⟨nv', iv', mv', _, vars_set HWF.out HV.out hid HS.out HA1.out.once HP.out.2.2.1 HP.out.2.2.2, HA1.out.setvar id x⟩, (HP.out.1.setCell (p := ⟨ab, 3 + id, none⟩) (fun _ => HFAB.out) _), HP.out.2.1, ?_, ?_⟩, HP.out.2.2.1, nvv_of HP.out.2.2.2, one_of HP.out.2.2.1 HP.out.2.2.2⟩
    · rcases HP.out.2.2.2 with e | ⟨e, _⟩
      · exact ⟨[], by simp [e]⟩
      · exact ⟨_, e⟩
    · rcases HP.out.2.2.2 with e | ⟨e, _⟩
      · rw [e]; omega
      · rw [e]; simp
  · by_cases hz : vid = 0
    · subst hz
      go_enter Tryd.func19, Tryd.ntmps19
      go_wp2_with (first | (go_at_call 35; refine (may_yes _ _ hw).mono ?_; rintro e w' ⟨rfl, rfl⟩) | (go_at_call 36; refine HA.out.mono ?_; rintro e w1 ⟨x, rfl, ns', foot', nv', iv', mv', ha', hp'⟩; have HP := Lib.hid hp'; have HA1 := Lib.hid ha'; have cv1 : w1.cell? ⟨ab, 3 + id, none⟩ = some (.int .i64 0) := (by rw [ha'.blk.cell (3 + id), show 3 + id = id + 1 + 1 + 1 by omega]; simp [arr, HVS.out]); have fr1 : ∀ i, w1.frozen? ⟨ab, i, none⟩ = false := ha'.blk.free; clear hp' ha'))
      go_ret2
      refine ⟨x, rfl, ns', foot', ⟨⟨nv', iv', mv', _, vars_set HWF.out HV.out hid HS.out HA1.out.once HP.out.2.2.1 HP.out.2.2.2, HA1.out.setvar id x⟩, (HP.out.1.setCell (p := ⟨ab, 3 + id, none⟩) (fun _ => HFAB.out) _), HP.out.2.1, ?_, ?_⟩, HP.out.2.2.1, nvv_of HP.out.2.2.2, one_of HP.out.2.2.1 HP.out.2.2.2⟩
      · rcases HP.out.2.2.2 with e | ⟨e, _⟩
        · exact ⟨[], by simp [e]⟩
        · exact ⟨_, e⟩
      · rcases HP.out.2.2.2 with e | ⟨e, _⟩
        · rw [e]; omega
        · rw [e]; simp
    · have hz' : (vid != 0) = true := by simpa using hz
      have HWv := Lib.hid (HWD w HAr.out).out
      rw [hvw] at HWv
      clear hz hvw
      go_enter Tryd.func19, Tryd.ntmps19
      go_wp2_with (first | (go_at_call 35; refine (may_yes _ _ hw).mono ?_; rintro e w' ⟨rfl, rfl⟩) | (go_at_call 14; refine HWv.out.mono ?_; rintro e w0 ⟨rfl, hb⟩; have HB0 := Lib.hid hb; have HAd := Lib.hid (add_any w0 ab ns foot nv iv mv vs _ (HAT.out.keep (fun b hb' => hb.block _ (HAT.out.lt b hb')) hb.size) HN.out (norm_leaf (.inr rfl)) HL.out); clear hb) | (go_at_call 36; refine HAd.out.mono ?_; rintro e w1 ⟨x, rfl, ns', foot', nv', iv', mv', ha', hp'⟩; have HP := Lib.hid hp'; have HA1 := Lib.hid ha'; have cv1 : w1.cell? ⟨ab, 3 + id, none⟩ = some (.int .i64 vid) := (by rw [ha'.blk.cell (3 + id), show 3 + id = id + 1 + 1 + 1 by omega]; simp [arr, HVS.out]); have fr1 : ∀ i, w1.frozen? ⟨ab, i, none⟩ = false := ha'.blk.free; clear hp' ha'))
      go_ret2
      refine ⟨x, rfl, Got.behind HB0.out ⟨ns', foot', ⟨⟨nv', iv', mv', _, vars_set HWF.out HV.out hid HS.out HA1.out.once HP.out.2.2.1 HP.out.2.2.2, HA1.out.setvar id x⟩, (HP.out.1.setCell (p := ⟨ab, 3 + id, none⟩) (fun _ => HFAB.out) _), HP.out.2.1, ?_, ?_⟩, HP.out.2.2.1, nvv_of HP.out.2.2.2, one_of HP.out.2.2.1 HP.out.2.2.2⟩⟩
      · rcases HP.out.2.2.2 with e | ⟨e, _⟩
        · exact ⟨[], by simp [e]⟩
        · exact ⟨_, e⟩
      · rcases HP.out.2.2.2 with e | ⟨e, _⟩
        · rw [e]; omega
        · rw [e]; simp
theorem var_width (w : World) (ab : Nat) (wd id : Int) (hw : ¬ mayw wd) :
    Calls Tryd.prog 19 #[ptr ab, .int .i64 wd, .int .i64 id] w fun e w' => e = .returned (.tuple #[.int .i64 0, .int .i64 2]) ∧ w = w' := by
  go_enter Tryd.func19, Tryd.ntmps19
  go_wp2_with (go_at_call 35; refine (may_no _ _ hw).mono ?_; rintro e w' ⟨rfl, rfl⟩)
  go_ret2
  exact ⟨rfl, rfl⟩
theorem var_id (w : World) (ab : Nat) (wd id : Int) (hw : mayw wd) (hid : id < 0 ∨ 64 ≤ id) :
    Calls Tryd.prog 19 #[ptr ab, .int .i64 wd, .int .i64 id] w fun e w' => e = .returned (.tuple #[.int .i64 0, .int .i64 1]) ∧ w = w' := by
  by_cases h0 : id < 0
  · clear hid
    go_enter Tryd.func19, Tryd.ntmps19
    go_wp2_with (go_at_call 35; refine (may_yes _ _ hw).mono ?_; rintro e w' ⟨rfl, rfl⟩)
    go_ret2
    exact ⟨rfl, rfl⟩
  · have h1 : 64 ≤ id := by omega
    clear hid
    go_enter Tryd.func19, Tryd.ntmps19
    go_wp2_with (go_at_call 35; refine (may_yes _ _ hw).mono ?_; rintro e w' ⟨rfl, rfl⟩)
    go_ret2
    exact ⟨rfl, rfl⟩
theorem var_other (w : World) (ab : Nat) (ns : List Nd) (foot : Nat → Prop) (wd : Int) (id : Nat) (h : Ar w ab ns foot) (hw : mayw wd) (hid : id < 64) (i : Nat) (m : Nd) (hi : ns[i]? = some m) (ho : m.op = 2) (hv : m.val = (id : Int)) (hne : m.w ≠ wd) :
    Calls Tryd.prog 19 #[ptr ab, .int .i64 wd, .int .i64 id] w fun e w' => e = .returned (.tuple #[.int .i64 0, .int .i64 1]) ∧ Below w.heap.size w w' := by
  have hid' : (id : Int) < 64 := by omega
  have HAr := Lib.hid h
  obtain ⟨nv, iv, mv, vs, hvars, ha⟩ := h
  have hvs : vs[id]? = some ((i : Int) + 1) := by
    rcases hvars.2 id hid with ⟨_, h1⟩ | ⟨j, k, hj, hko, hkv, hs, hu⟩
    · exact absurd hv (h1 i m hi ho)
    · rw [hu i m hi ho hv]; exact hs
  have cv : w.cell? ⟨ab, 3 + id, none⟩ = some (.int .i64 ((i : Int) + 1)) := by
    rw [ha.blk.cell (3 + id), show 3 + id = id + 1 + 1 + 1 by omega]
    simp [arr, hvs]
  have HW := Lib.hid (width_any w ab ns foot ((i : Int) + 1) HAr.out)
  rw [wdt_of (nd_cast hi)] at HW
  have hb : (m.w != wd) = true := by simpa using hne
  have hz' : ((i : Int) + 1 != 0) = true := by simp; omega
  have hblt := ha.blk.lt
  clear hvars ha hvs hi hne hv ho
  go_enter Tryd.func19, Tryd.ntmps19
  go_wp2_with (first | (go_at_call 35; refine (may_yes _ _ hw).mono ?_; rintro e w' ⟨rfl, rfl⟩) | (go_at_call 14; refine HW.out.mono ?_; rintro e w0 ⟨rfl, hb0⟩))
  go_ret2
  exact ⟨rfl, hb0⟩
end Go.Proofs.YtgbmiphaabeodaaDoor
