/-
  Parts of the proof, joined: NameH, TreeTm, TreeTa, TreeTb, TreeTf.
-/
import Derived.Test.YtckoapfmfpmdgaaMp21
import Derived.Test.YtckoapfmfpmdgaaMp14
import Derived.Maps.OwnSet
import Derived.Maps.RangeWalk
import Derived.DeepKeys5
import Derived.Deep.RegionLaw

namespace Go.Proofs.Ytckoapfmfpmdgaa
open Go.ChangeShapes Go.WideShapes Go.ChangeAt Go.RowKit Go.Joins
set_option linter.unusedVariables false

/-- A value of a name in its box, whatever else has come. -/
structure NS (W w : World) (g : Nat) (p q : List UInt8) : Prop where
  gw : Gw W w
  c : Has w g 140 #[.string (bs p), .string (bs q)]
theorem NS.on {W w w' : World} {g : Nat} {p q : List UInt8} (h : NS W w g p q) (G : Gw w w') : NS W w' g p q := ⟨h.gw.trans G, h.c.on G⟩
theorem spl_size (l : List UInt8) : (bs (spl l).1).size ≤ 140737488351232 ∧ (bs (spl l).2).size ≤ 140737488351232 := by
  rw [bs_size, bs_size]
  cases h : nameB l with
  | false => rw [spl_no h]; exact ⟨by decide, by decide⟩
  | true =>
    rcases name_cases h with ⟨_, h0, h2, _⟩ | ⟨a, b, c, h1, _, _, _, h0, h2, _⟩
    · rw [h2]; exact ⟨by simp, by simp only; omega⟩
    · rw [h2]
      have : l.length = a.length + b.length + 1 := by rw [h1]; simp; omega
      exact ⟨by simp only; omega, by simp only; omega⟩
theorem ns_new {W w1 : World} {p q : List UInt8} (G1 : Gw W w1) (o : Value) : NS W (w1.alloc (.cells #[.string (bs p), .string (bs q)] 140)) w1.heap.size p q := ⟨G1.trans (Gw.alloc _ _), Has.new _ _ _⟩
theorem split_any : SplitC := by
  intro s W hs
  have F := fun w => of_any s w hs
  obtain ⟨z1, z2⟩ := spl_size s.data.toList
  unfold nV at F
  generalize spl s.data.toList = p at F z1 z2 ⊢
  obtain ⟨p1, p2⟩ := p
  have K1 := fun w => clone_any (bs p1) w z1
  have K2 := fun w => clone_any (bs p2) w z2
  clear z1 z2
  go_enter Try.func84, Try.ntmps84
  go_upto_region 2 with (go_at_call 90; with_reducible refine (F _).mono ?_; rintro e w1 ⟨rfl, G1⟩)
  have N1 : NS W (w1.alloc (.cells #[.string (bs p1), .string (bs p2)] 140)) w1.heap.size p1 p2 := ns_new G1 (.nilIface)
  have hne : Nonempty (InP (fun w => NS W w w1.heap.size p1 p2)) := ⟨⟨_, N1⟩⟩
  have k0 : ∀ n : InP (fun w => NS W w w1.heap.size p1 p2), n.val.cell? ⟨w1.heap.size, 0, none⟩ = some (.string (bs p1)) := fun n => n.ok.c.cell 0
  have k1 : ∀ n : InP (fun w => NS W w w1.heap.size p1 p2), n.val.cell? ⟨w1.heap.size, 1, none⟩ = some (.string (bs p2)) := fun n => n.ok.c.cell 1
  refine region_p (S := fun w => NS W w w1.heap.size p1 p2) (by kernel_rfl) (by kernel_rfl) (N1.on (Gw.refl _).drew) ?_
  repeat (go_big_quiet_step (first | with_reducible exact toG (fun a b h g => NS.on h g) (K1 _) | with_reducible exact toG (fun a b h g => NS.on h g) (K2 _)))
  refine wpQuiet_nil ?_
  intro _ hw'
  obtain ⟨nq, rfl⟩ := hw'
  go_wp2
  go_ret2
  exact ⟨rfl, nq.ok.gw⟩
end Go.Proofs.Ytckoapfmfpmdgaa

namespace Go.Proofs.Ytckoapfmfpmdgaa
open Go.ChangeShapes Go.WideShapes Go.ChangeAt Go.RowKit Go.Joins
set_option linter.unusedVariables false
set_option linter.unusedSimpArgs false

abbrev tK : TypeId := 98
abbrev tE : TypeId := 100
abbrev tMp : TypeId := 87
theorem keyedName : Maps.Keyed Try.prog tK := Maps.Keyed.of_law (deep_law_gate (by kernel_rfl) (of_decide_eq_true (by kernel_rfl)) (of_decide_eq_true (by kernel_rfl)) (by kernel_rfl) (by kernel_rfl))
abbrev Pr := List UInt8 × List UInt8
/-- Two parts as a value, and as a key. -/
abbrev tV (p : Pr) : Value := .agg #[.string (bs p.1), .string (bs p.2)]
def nkl (p : Pr) : Lit := .string (keyBytes [.string p.1, .string p.2])
structure Pk (p : Pr) : Prop where
  a : p.1.length ≤ 8
  b : p.2.length ≤ 8
theorem ktypeN : Try.prog.keyType tK = true := by kernel_rfl
theorem cellsN : Try.prog.cellsOf tK = 2 := by kernel_rfl
theorem cellsS : Try.prog.cellsOf 9 = 1 := by kernel_rfl
theorem types_two : ∃ k, Try.prog.types.size + 1 = k + 2 := ⟨Try.prog.types.size - 1, by have : 1 ≤ Try.prog.types.size := of_decide_eq_true (by kernel_rfl); omega⟩
theorem key_of {p : Pr} (h : Pk p) : keyOf Try.prog tK (tV p) = some (nkl p) := by
  obtain ⟨p1, p2⟩ := p
  have h1 : (bs p1).size ≤ maxLen := by rw [bs_size]; have := h.a; have : maxLen = 9223372036854775807 := rfl; simp only at *; omega
  have h2 : (bs p2).size ≤ maxLen := by rw [bs_size]; have := h.b; have : maxLen = 9223372036854775807 := rfl; simp only at *; omega
  obtain ⟨k, hk⟩ := types_two
  unfold keyOf
  rw [Try.underlying98, hk]
  simp only [ktypeN, Value.formed, Try.underlying98, cellsN, Value.cells]
  simp [Program.keyLits, Try.underlying98, Try.underlying9, cellsN, cellsS, h1, h2, nkl, bs_data]
theorem nkl_inj {p q : Pr} (h : Pk p) (k : Pk q) (e : nkl p = nkl q) : p = q := by
  have := keyedName.inj (key_of h) (e ▸ key_of k)
  have h2 : bs p.1 = bs q.1 ∧ bs p.2 = bs q.2 := by simpa using this
  exact Prod.ext (bs_inj h2.1) (bs_inj h2.2)
theorem nkl_key {p : Pr} (h : Pk p) : WideAt.IsKeyLit (nkl p) := keyedName.key (key_of h)
theorem pk_spl (l : List UInt8) : Pk (spl l) := by
  cases h : nameB l with
  | false => rw [spl_no h]; exact ⟨by decide, by decide⟩
  | true =>
    rcases name_cases h with ⟨_, h0, h2, _⟩ | ⟨a, b, c, h1, _, _, _, h0, h2, _⟩
    · rw [h2]; exact ⟨by simp, h0⟩
    · rw [h2]
      have : l.length = a.length + b.length + 1 := by rw [h1]; simp; omega
      exact ⟨by simp only; omega, by simp only; omega⟩
theorem pk_up {p : Pr} (h : Pk p) : Pk ([], p.1) := ⟨by simp, h.a⟩
/-! ### An element -/
def entD (n : Int) (d : Bool) : DataW Unit := .agg [.lit (.int .i64 n), .lit (.bool d)]
abbrev entV (n : Int) (d : Bool) : Value := .agg #[.int .i64 n, .bool d]
def eElem : Value → Option (DataW Unit × List MemPlace)
  | .agg ⟨[.int .i64 n, .bool d]⟩ => some (entD n d, [])
  | _ => none
theorem eElem_mk (n : Int) (d : Bool) : eElem (entV n d) = some (entD n d, []) := rfl
theorem eElem_inv {v : Value} {y : DataW Unit × List MemPlace} (h : eElem v = some y) : ∃ n d, v = entV n d ∧ y = (entD n d, []) := by
  unfold eElem at h
  split at h
  · rename_i n d; cases h; exact ⟨n, d, rfl, rfl⟩
  · cases h
theorem entD_inj {n m : Int} {d e : Bool} (h : entD n d = entD m e) : n = m ∧ d = e := by
  unfold entD at h
  simp at h
  exact h

/-! ### What the map reads as -/
abbrev isN (p : Pr) : Itm → Bool := fun i => decide (spl i.p = p)
def nlook (l : List Itm) (p : Pr) : Option Itm := l.find? (isN p)
def entK (i : Itm) : Lit × DataW Unit := (nkl (spl i.p), entD i.n i.d)
def MpIs (D : DataW Unit) (l : List Itm) : Prop := ∃ es, D = .map es ∧ es.Perm (l.map entK)
theorem MpIs.start : MpIs (.map []) [] := ⟨[], rfl, List.Perm.nil⟩
theorem MpIs.perm {D : DataW Unit} {l l' : List Itm} (h : MpIs D l) (k : l.Perm l') : MpIs D l' := by
  obtain ⟨es, h1, h2⟩ := h
  exact ⟨es, h1, h2.trans (k.map _)⟩
theorem MpIs.size {D : DataW Unit} {l : List Itm} (h : MpIs D l) : Maps.size D = l.length := by
  obtain ⟨es, rfl, h2⟩ := h
  rw [Maps.size_eq, h2.length_eq, List.length_map]
theorem nlook_mem {l : List Itm} {p : Pr} {i : Itm} (h : nlook l p = some i) : i ∈ l ∧ spl i.p = p := ⟨List.mem_of_find?_eq_some h, of_decide_eq_true (List.find?_some (p := isN p) h)⟩
theorem nlook_not {l : List Itm} {p : Pr} (h : nlook l p = none) : ∀ i ∈ l, spl i.p ≠ p := fun i hi e => by
  have := List.find?_eq_none.1 h i hi
  exact this (by simp [e])
theorem MpIs.only {D : DataW Unit} {l : List Itm} (h : MpIs D l) {k : Lit} (hk : Maps.has D k = true) : ∃ i ∈ l, k = nkl (spl i.p) := by
  obtain ⟨es, rfl, h2⟩ := h
  rw [Maps.has_eq] at hk
  obtain ⟨q, hq, he⟩ := List.any_eq_true.1 hk
  obtain ⟨i, hi, rfl⟩ := List.mem_map.1 (h2.mem_iff.1 hq)
  exact ⟨i, hi, (WideAt.sameKey_eq he).symm⟩
theorem MpIs.miss {D : DataW Unit} {l : List Itm} (h : MpIs D l) {p : Pr} (hp : Pk p) (hn : nlook l p = none) : Maps.has D (nkl p) = false := by
  cases hk : Maps.has D (nkl p) with
  | false => rfl
  | true =>
    obtain ⟨i, hi, he⟩ := h.only hk
    exact absurd (nkl_inj hp (pk_spl i.p) he).symm (nlook_not hn i hi)
theorem MpIs.hit {D : DataW Unit} {l : List Itm} (h : MpIs D l) (ok : Ok l) {p : Pr} (hp : Pk p) {i : Itm} (hn : nlook l p = some i) : Maps.has D (nkl p) = true ∧ ∀ z, D.atKey (nkl p) z = entD i.n i.d := by
  obtain ⟨es, rfl, h2⟩ := h
  obtain ⟨hi, he⟩ := nlook_mem hn
  have hm : entK i ∈ es := h2.mem_iff.2 (List.mem_map.2 ⟨i, hi, rfl⟩)
  have hs : (entK i).1.sameKey (nkl p) = true := by show (nkl (spl i.p)).sameKey (nkl p) = true; rw [he]; exact WideAt.sameKey_self (nkl_key hp)
  refine ⟨by rw [Maps.has_eq]; exact List.any_eq_true.2 ⟨_, hm, hs⟩, fun z => ?_⟩
  cases hf : es.find? (fun q => q.1.sameKey (nkl p)) with
  | none => exact absurd hs (List.find?_eq_none.1 hf _ hm)
  | some q =>
    have hq := List.mem_of_find?_eq_some hf
    have hqs : q.1.sameKey (nkl p) = true := List.find?_some (p := fun q : Lit × DataW Unit => q.1.sameKey (nkl p)) hf
    obtain ⟨j, hj, rfl⟩ := List.mem_map.1 (h2.mem_iff.1 hq)
    have e1 : spl j.p = p := nkl_inj (pk_spl j.p) hp (WideAt.sameKey_eq hqs)
    have e2 : j = i := ok.same hj hi (spl_inj (ok.nm j hj) (ok.nm i hi) (e1.trans he.symm))
    subst e2
    unfold DataW.atKey
    simp only [hf]
    rfl
theorem map_filter_ent (l : List Itm) (hl : ∀ i ∈ l, nameB i.p = true) (b : List UInt8) (hb : nameB b = true) : (l.map entK).filter (ChangeMaps.notKey (nkl (spl b))) = (l.filter (fun i => i.p != b)).map entK := by
  rw [List.filter_map]
  congr 1
  refine List.filter_congr fun i hi => ?_
  show (!(nkl (spl i.p)).sameKey (nkl (spl b))) = _
  by_cases e : i.p = b
  · rw [e, WideAt.sameKey_self (nkl_key (pk_spl b))]; simp
  · have h1 : ¬ nkl (spl i.p) = nkl (spl b) := fun h => e (spl_inj (hl i hi) hb (nkl_inj (pk_spl _) (pk_spl _) h))
    rw [Maps.sameKey_ne h1]; simp [e]
theorem MpIs.put {D : DataW Unit} {l : List Itm} (h : MpIs D l) (hl : ∀ i ∈ l, nameB i.p = true) {b : List UInt8} (hb : nameB b = true) (n : Int) (d : Bool) : MpIs (D.put (nkl (spl b)) (entD n d)) (⟨b, d, n⟩ :: l.filter (fun i => i.p != b)) := by
  obtain ⟨es, rfl, h2⟩ := h
  refine ⟨_, DataW.put_eq _ _ _, ?_⟩
  unfold ChangeMaps.putKey
  refine (insert_perm _ _).trans ?_
  rw [List.map_cons, ← map_filter_ent l hl b hb]
  exact (h2.filter _).cons _
theorem MpIs.del {D : DataW Unit} {l : List Itm} (h : MpIs D l) (hl : ∀ i ∈ l, nameB i.p = true) {b : List UInt8} (hb : nameB b = true) : MpIs (D.del (nkl (spl b))) (l.filter (fun i => i.p != b)) := by
  obtain ⟨es, rfl, h2⟩ := h
  refine ⟨_, DataW.del_eq _ _, ?_⟩
  unfold ChangeMaps.delKey
  rw [← map_filter_ent l hl b hb]
  exact h2.filter _
theorem not_filter {l : List Itm} {b : List UInt8} (h : ∀ i ∈ l, i.p ≠ b) : l.filter (fun i => i.p != b) = l := List.filter_eq_self.2 fun i hi => by simp [h i hi]
theorem erase_filter {l : List Itm} (h : (l.map (·.p)).Nodup) (b : List UInt8) : l.eraseP (is b) = l.filter (fun i => i.p != b) := by
  induction l with
  | nil => rfl
  | cons i l ih =>
    rw [List.map_cons, List.nodup_cons] at h
    by_cases e : i.p = b
    · have hn : ∀ j ∈ l, j.p ≠ b := fun j hj k => h.1 (List.mem_map.2 ⟨j, hj, k.trans e.symm⟩)
      rw [List.eraseP_cons_of_pos (by simp [is, e]), List.filter_cons_of_neg (by simp [e]), not_filter hn]
    · rw [List.eraseP_cons_of_neg (by simp [is, e]), List.filter_cons_of_pos (by simp [e]), ih h.2]
theorem ren_perm {l : List Itm} (h : (l.map (·.p)).Nodup) {a : List UInt8} {i : Itm} (hi : look l a = some i) (b : List UInt8) : (ren a b l).Perm (⟨b, i.d, i.n⟩ :: l.filter (fun i => i.p != a)) := by
  induction l with
  | nil => cases hi
  | cons j l ih =>
    rw [List.map_cons, List.nodup_cons] at h
    by_cases e : j.p = a
    · have hn : ∀ k ∈ l, k.p ≠ a := fun k hk q => h.1 (List.mem_map.2 ⟨k, hk, q.trans e.symm⟩)
      have : j = i := by
        unfold look at hi
        rw [List.find?_cons_of_pos (by simp [is, e])] at hi
        cases hi; rfl
      subst this
      rw [ren, if_pos e, List.filter_cons_of_neg (by simp [e]), not_filter hn]
    · have hi' : look l a = some i := by unfold look at hi ⊢; rwa [List.find?_cons_of_neg (by simp [is, e])] at hi
      rw [ren, if_neg e, List.filter_cons_of_pos (by simp [e])]
      exact ((ih h.2 hi').cons j).trans (List.Perm.swap _ _ _)
theorem find_same {l : List Itm} {f g : Itm → Bool} (h : ∀ i ∈ l, f i = g i) : l.find? f = l.find? g := by
  induction l with
  | nil => rfl
  | cons j l ih => rw [List.find?_cons, List.find?_cons, h j (List.mem_cons_self ..), ih (fun k hk => h k (List.mem_cons_of_mem _ hk))]
theorem nlook_look {l : List Itm} (ok : Ok l) {p : List UInt8} (hp : nameB p = true) : nlook l (spl p) = look l p :=
  find_same fun i hi => by
    show decide (spl i.p = spl p) = (i.p == p)
    by_cases e : i.p = p
    · rw [e]; simp
    · rw [decide_eq_false (fun h => e (spl_inj (ok.nm i hi) hp h)), beq_false_of_ne e]
end Go.Proofs.Ytckoapfmfpmdgaa

namespace Go.Proofs.Ytckoapfmfpmdgaa
open Go.ChangeShapes Go.WideShapes Go.ChangeAt Go.RowKit Go.Joins
set_option linter.unusedVariables false
set_option linter.unusedSimpArgs false

structure MT (w : World) (g : Nat) (m : Option Nat) (s : St) : Prop where
  hd : Has w g 89 #[.map m, .int .i64 s.nx]
  mp : (m = none ∧ s.l = []) ∨ ∃ b D, m = some b ∧ w.ownsMap Try.prog tK eElem b s.l.length D ∧ MpIs D s.l
theorem mown_same {w w' : World} {b n : Nat} {D : DataW Unit} (h : w.ownsMap Try.prog tK eElem b n D) (e : w'.heap[b]? = w.heap[b]?) : w'.ownsMap Try.prog tK eElem b n D := by
  obtain ⟨es, clock, hb, r⟩ := h
  exact ⟨es, clock, e.trans hb, r⟩
/-- The blocks of a tree. -/
abbrev mtF (g : Nat) (m : Option Nat) : Nat → Prop := fun k => k = g ∨ m = some k
section
variable {w w' : World} {g : Nat} {m : Option Nat} {s : St}
theorem MT.lt (h : MT w g m s) {k : Nat} (hk : mtF g m k) : k < w.heap.size := by
  rcases hk with rfl | rfl
  · exact h.hd.lt
  · rcases h.mp with ⟨h1, _⟩ | ⟨b, D, h1, h2, _⟩
    · cases h1
    · cases h1; exact h2.lt
theorem MT.same (h : MT w g m s) (e : ∀ k, mtF g m k → w'.heap[k]? = w.heap[k]?) : MT w' g m s := by
  refine ⟨h.hd.same (e g (.inl rfl)), ?_⟩
  rcases h.mp with h1 | ⟨b, D, h1, h2, h3⟩
  · exact .inl h1
  · exact .inr ⟨b, D, h1, mown_same h2 (e b (.inr h1)), h3⟩
theorem MT.on (h : MT w g m s) (G : Gw w w') : MT w' g m s := h.same fun k hk => G.block k (h.lt hk)
theorem MT.ne (h : MT w g m s) {b : Nat} (hb : m = some b) : b ≠ g := by
  rintro rfl
  rcases h.mp with ⟨h1, _⟩ | ⟨b', D, h1, h2, _⟩
  · rw [h1] at hb; cases hb
  · rw [h1] at hb
    cases hb
    obtain ⟨es, clock, h4, _⟩ := h2
    have := h.hd
    unfold Has at this
    rw [h4] at this
    cases this
/-- What a look-up answers. -/
def lkN : Option Itm → Int | none => 0 | some i => i.n
def lkD : Option Itm → Bool | none => false | some i => i.d
theorem zeroE (w : World) : (zeroValue tE).run Try.prog w = .ok (entV 0 false) w := by kernel_rfl
theorem MT.look (h : MT w g m s) (ok : Ok s.l) {p : Pr} (hp : Pk p) : (Instr.lookup tMp (.map m) (tV p) true).run Try.prog w = .ok (.tuple #[entV (lkN (nlook s.l p)) (lkD (nlook s.l p)), .bool (nlook s.l p).isSome]) w := by
  rcases h.mp with ⟨rfl, h2⟩ | ⟨b, D, rfl, h2, h3⟩
  · have := Maps.look_nil (w := w) true keyedName Try.underlying87 (zeroE w) (key_of hp)
    rw [this, h2]; rfl
  · obtain ⟨v, ps, hr, hv⟩ := h2.look_ok keyedName Try.underlying87 (zeroE w) (eElem_mk 0 false) (key_of hp)
    rw [hr]
    cases hk : nlook s.l p with
    | none =>
      have e1 := h3.miss hp hk
      rw [Maps.atKey_of_not_has e1] at hv
      obtain ⟨n, d, rfl, e2⟩ := eElem_inv hv
      obtain ⟨rfl, rfl⟩ := entD_inj (Prod.mk.inj e2).1
      rw [e1]; rfl
    | some i =>
      obtain ⟨e1, e3⟩ := h3.hit ok hp hk
      rw [e3] at hv
      obtain ⟨n, d, rfl, e2⟩ := eElem_inv hv
      obtain ⟨rfl, rfl⟩ := entD_inj (Prod.mk.inj e2).1
      rw [e1]; rfl
theorem MT.look1 (h : MT w g m s) (ok : Ok s.l) {p : Pr} (hp : Pk p) : (Instr.lookup tMp (.map m) (tV p) false).run Try.prog w = .ok (entV (lkN (nlook s.l p)) (lkD (nlook s.l p))) w := by
  rcases h.mp with ⟨rfl, h2⟩ | ⟨b, D, rfl, h2, h3⟩
  · have := Maps.look_nil (w := w) false keyedName Try.underlying87 (zeroE w) (key_of hp)
    rw [this, h2]; rfl
  · obtain ⟨v, ps, hr, hv⟩ := h2.lookup keyedName Try.underlying87 (zeroE w) (eElem_mk 0 false) (key_of hp)
    rw [hr]
    cases hk : nlook s.l p with
    | none =>
      have e1 := h3.miss hp hk
      rw [Maps.atKey_of_not_has e1] at hv
      obtain ⟨n, d, rfl, e2⟩ := eElem_inv hv
      obtain ⟨rfl, rfl⟩ := entD_inj (Prod.mk.inj e2).1
      rfl
    | some i =>
      obtain ⟨e1, e3⟩ := h3.hit ok hp hk
      rw [e3] at hv
      obtain ⟨n, d, rfl, e2⟩ := eElem_inv hv
      obtain ⟨rfl, rfl⟩ := entD_inj (Prod.mk.inj e2).1
      rfl
theorem MT.len (h : MT w g m s) (ty : TypeId) : (Builtin.len_ #[tMp] ty #[.map m]).run Try.prog w = .ok (.int .i64 s.l.length) w := by
  rcases h.mp with ⟨rfl, h2⟩ | ⟨b, D, rfl, h2, h3⟩
  · rw [Maps.len_nil (w := w) Try.underlying87 ty, h2]; rfl
  · rw [h2.len Try.underlying87 ty, h3.size]
end
/-! ### of, above, deep -/
theorem tof_any (s : ByteArray) (W : World) (hs : s.size ≤ 140737488351232) : Calls Try.prog 53 #[.string s] W fun e W' => e = .returned (tV (spl s.data.toList)) ∧ Gw W W' := by
  have F := fun w => split_any s w hs
  generalize spl s.data.toList = p at F ⊢
  obtain ⟨p1, p2⟩ := p
  go_enter Try.func53, Try.ntmps53
  go_wp2_with (go_at_call 84; with_reducible refine (F _).mono ?_; rintro e w1 ⟨rfl, G1⟩; have HB := (Has.new W 98 #[.string ⟨#[]⟩, .string ⟨#[]⟩]).on G1; obtain ⟨c1, f1⟩ := box1 HB; obtain ⟨c0, f0⟩ := box0 HB)
  obtain ⟨e1, e2⟩ := of_end (x := .string (bs p1)) (y := .string (bs p2)) HB G1
  refine bodyPost_ret (results_cell_row rfl _ _ W.heap.size _ _ _ _ rfl e1 Try.underlying98 rfl (by kernel_rfl)) rfl ?_
  exact ⟨rfl, e2⟩
theorem tabove_any (p : Pr) (W : World) : Calls Try.prog 87 #[tV p] W fun e W' => e = .returned (tV ([], p.1)) ∧ Gw W W' := by
  obtain ⟨p1, p2⟩ := p
  have HB := Has.new (W.alloc (.cells #[.string (bs p1), .string (bs p2)] 98)) 98 #[.string ⟨#[]⟩, .string (bs p1)]
  rw [size_alloc] at HB
  have G : Gw W ((W.alloc (.cells #[.string (bs p1), .string (bs p2)] 98)).alloc (.cells #[.string ⟨#[]⟩, .string (bs p1)] 98)) := (Gw.alloc _ _).trans (Gw.alloc _ _)
  go_enter Try.func87, Try.ntmps87
  go_wp2
  refine bodyPost_ret (results_cell_row rfl _ _ (W.heap.size + 1) _ _ _ _ rfl HB Try.underlying98 rfl (by kernel_rfl)) rfl ?_
  exact ⟨rfl, G⟩
theorem tdeep_any (p : Pr) (W : World) : Calls Try.prog 86 #[tV p] W fun e W' => e = .returned (.bool (!decide (p.1 = []))) ∧ Gw W W' := by
  obtain ⟨p1, p2⟩ := p
  have G : Gw W (W.alloc (.cells #[.string (bs p1), .string (bs p2)] 98)) := Gw.alloc _ _
  go_enter Try.func86, Try.ntmps86
  go_wp2
  go_ret
  exact ⟨by rw [bs_list]; cases p1 <;> rfl, G⟩
/-! ### place, find -/
def plI (l : List Itm) (p : Pr) : Int := if p = ([], []) then 65282 else if p.1 = [] then 0 else match nlook l ([], p.1) with | none => 65282 | some i => if i.d = true then 0 else 65300
end Go.Proofs.Ytckoapfmfpmdgaa

namespace Go.Proofs.Ytckoapfmfpmdgaa
open Go.ChangeShapes Go.WideShapes Go.ChangeAt Go.RowKit Go.Joins
set_option linter.unusedVariables false
set_option linter.unusedSimpArgs false

set_option maxHeartbeats 2000000 in
theorem place_any {W : World} {g : Nat} {m : Option Nat} {s : St} (h : MT W g m s) (ok : Ok s.l) (p : Pr) (hp : Pk p) : Calls Try.prog 85 #[.pointer (some ⟨g, 0, none⟩), tV p] W fun e W' => e = .returned (.int .u16 (plI s.l p)) ∧ Gw W W' := by
  obtain ⟨p1, p2⟩ := p
  have hn : ∀ b w, (Op.unary .not (.bool b)).run Try.prog w = .ok (.bool (!b)) w := fun _ _ => rfl
  have L0 : ∀ w, Gw W w → (Instr.lookup 87 (.map m) (tV ([], p1)) true).run Try.prog w = .ok (.tuple #[entV (lkN (nlook s.l ([], p1))) (lkD (nlook s.l ([], p1))), .bool (nlook s.l ([], p1)).isSome]) w := fun w G => (h.on G).look ok (pk_up hp)
  have A0 := fun w => tabove_any (p1, p2) w
  have D0 := fun w => tdeep_any (p1, p2) w
  have C0 : ∀ w, Gw W w → w.cell? ⟨g, 0, none⟩ = some (.map m) := fun w G => (h.hd.on G).cell 0
  have G0 : Gw W (W.alloc (.cells #[.string (bs p1), .string (bs p2)] 98)) := Gw.alloc _ _
  have HB0 := Has.new W 98 #[.string (bs p1), .string (bs p2)]
  clear h ok
  unfold plI
  have t1 : ∀ q : List UInt8, ((bs q).toList == ([] : List UInt8)) = decide (q = []) ∧ (bs q).toList.isEmpty = decide (q = []) := fun q => by rw [bs_list]; cases q <;> exact ⟨rfl, rfl⟩
  obtain ⟨s1, s2⟩ := t1 p1
  obtain ⟨r1, r2⟩ := t1 p2
  clear t1
  by_cases e1 : p1 = []
  · rw [decide_eq_true e1] at s1 s2
    by_cases e2 : p2 = []
    · rw [decide_eq_true e2] at r1 r2
      have hr : ((p1, p2) : Pr) = ([], []) := by rw [e1, e2]
      rw [if_pos hr]
      clear e1 e2 hr
      go_enter Try.func85, Try.ntmps85
      go_wp2
      go_ret
      exact ⟨rfl, G0⟩
    · rw [decide_eq_false e2] at r1 r2
      have hr : ¬ ((p1, p2) : Pr) = ([], []) := fun k => e2 (Prod.mk.inj k).2
      rw [if_neg hr, if_pos e1]
      simp only [decide_true, Bool.not_true, e1] at D0
      rw [← e1] at D0
      clear e1 e2 hr
      go_enter Try.func85, Try.ntmps85
      go_wp2_with (go_at_call 86; with_reducible refine (D0 _).mono ?_; rintro e w1 ⟨rfl, G1⟩)
      go_ret
      exact ⟨rfl, G0.trans G1⟩
  · rw [decide_eq_false e1] at s1 s2
    have hr : ¬ ((p1, p2) : Pr) = ([], []) := fun k => e1 (Prod.mk.inj k).1
    rw [if_neg hr, if_neg e1]
    simp only [e1, decide_false, Bool.not_false] at D0
    generalize nlook s.l ([], p1) = o at L0 ⊢
    clear e1 hr
    go_enter Try.func85, Try.ntmps85
    go_upto_region 5 with (go_at_call 86; with_reducible refine (D0 _).mono ?_; rintro e w1 ⟨rfl, G1⟩)
    have g1 := G0.trans G1
    have g1a := g1.trans (Gw.alloc w1 (.cells #[.int .i64 0, .bool false] 100))
    have HB1 := HB0.on G1
    have c1 := C0 _ g1
    have c1a := C0 _ g1a
    obtain ⟨b1, _⟩ := box1 HB1
    obtain ⟨b0, _⟩ := box0 HB1
    obtain ⟨b1a, _⟩ := box1 (HB1.on (Gw.alloc w1 (.cells #[.int .i64 0, .bool false] 100)))
    obtain ⟨b0a, _⟩ := box0 (HB1.on (Gw.alloc w1 (.cells #[.int .i64 0, .bool false] 100)))
    have l1 := L0
    go_region_law (first
      | (rw [if_pos (by rfl)]; go_simp; go_at_call 87; with_reducible refine (A0 _).mono ?_; rintro e w2 ⟨rfl, G2⟩; have g2 : Gw W w2 := (by first | exact (g1.drew.trans G2) | exact (g1a.drew.trans G2)); have c2 := C0 _ g2; have c2a := C0 _ (g2.trans (Gw.alloc w2 (.cells #[.int .i64 0, .bool false] 100))); have l2 := L0 _ g2; have l2a := L0 _ (g2.trans (Gw.alloc w2 (.cells #[.int .i64 0, .bool false] 100))); (try (have hb2 : Has w2 w1.heap.size 100 #[.int .i64 0, .bool false] := (Has.new w1 _ _).on ((Gw.refl _).drew.trans G2); have z0 := (box0 hb2).1; have z1 := (box1 hb2).1; have y0 := (box0 hb2).2; have y1 := (box1 hb2).2)))
      | fail)
    all_goals (
      clear l1 l2 l2a L0
      cases o with
      | none =>
        simp only [lkN, lkD, Option.isSome]
        go_wp2
        go_ret
        refine ⟨rfl, ?_⟩
        first | exact g2 | exact g2.trans (Gw.alloc _ _) | exact ((But.set _ _ _ _).trans (But.set _ _ _ _)).gw g2 g1.size
      | some i =>
        simp only [lkN, lkD, Option.isSome]
        cases hid : i.d with
        | true =>
          go_wp2
          go_ret
          refine ⟨by simp, ?_⟩
          first | exact g2 | exact g2.trans (Gw.alloc _ _) | exact ((But.set _ _ _ _).trans (But.set _ _ _ _)).gw g2 g1.size
        | false =>
          go_wp2
          go_ret
          refine ⟨by simp, ?_⟩
          first | exact g2 | exact g2.trans (Gw.alloc _ _) | exact ((But.set _ _ _ _).trans (But.set _ _ _ _)).gw g2 g1.size)
end Go.Proofs.Ytckoapfmfpmdgaa

namespace Go.Proofs.Ytckoapfmfpmdgaa
open Go.ChangeShapes Go.WideShapes Go.ChangeAt Go.RowKit Go.Joins
set_option linter.unusedVariables false
set_option linter.unusedSimpArgs false

def fnI (l : List Itm) (p : Pr) : Int × Bool × Int := if plI l p = 0 then (match nlook l p with | none => (-1, false, 65282) | some i => (i.n, i.d, 0)) else (-1, false, plI l p)
abbrev fnV (r : Int × Bool × Int) : Value := .tuple #[entV r.1 r.2.1, .int .u16 r.2.2]
theorem plI_cases (l : List Itm) (p : Pr) : plI l p = 0 ∨ plI l p = 65282 ∨ plI l p = 65300 := by
  unfold plI
  split
  · exact .inr (.inl rfl)
  · split
    · exact .inl rfl
    · split
      · exact .inr (.inl rfl)
      · split
        · exact .inl rfl
        · exact .inr (.inr rfl)
set_option maxHeartbeats 2000000 in
theorem tfind_any {W : World} {g : Nat} {m : Option Nat} {s : St} (h : MT W g m s) (ok : Ok s.l) (p : Pr) (hp : Pk p) : Calls Try.prog 57 #[.pointer (some ⟨g, 0, none⟩), tV p] W fun e W' => e = .returned (fnV (fnI s.l p)) ∧ Gw W W' := by
  have hn : ∀ b w, (Op.unary .not (.bool b)).run Try.prog w = .ok (.bool (!b)) w := fun _ _ => rfl
  have L0 : ∀ w, Gw W w → (Instr.lookup 87 (.map m) (.agg #[.string (bs p.1), .string (bs p.2)]) true).run Try.prog w = .ok (.tuple #[entV (lkN (nlook s.l p)) (lkD (nlook s.l p)), .bool (nlook s.l p).isSome]) w := fun w G => (h.on G).look ok hp
  have P0 : ∀ w, Gw W w → Calls Try.prog 85 #[.pointer (some ⟨g, 0, none⟩), tV p] w fun e W' => e = .returned (.int .u16 (plI s.l p)) ∧ Gw w W' := fun w G => place_any (h.on G) ok p hp
  have C0 : ∀ w, Gw W w → w.cell? ⟨g, 0, none⟩ = some (.map m) := fun w G => (h.hd.on G).cell 0
  have HB0 := Has.new W 98 #[.string (bs p.1), .string (bs p.2)]
  have HB1 := Has.new (W.alloc (.cells #[.string (bs p.1), .string (bs p.2)] 98)) 100 #[.int .i64 0, .bool false]
  have G0 : Gw W ((W.alloc (.cells #[.string (bs p.1), .string (bs p.2)] 98)).alloc (.cells #[.int .i64 0, .bool false] 100)) := (Gw.alloc _ _).trans (Gw.alloc _ _)
  rw [size_alloc] at HB1
  have HB0' := HB0.on (Gw.alloc _ (.cells #[.int .i64 0, .bool false] 100))
  have hpl := plI_cases s.l p
  unfold fnI
  clear h ok
  by_cases e0 : plI s.l p = 0
  · rw [if_pos e0]
    simp only [e0] at P0
    generalize nlook s.l p = o at L0 ⊢
    clear hpl e0
    go_enter Try.func57, Try.ntmps57
    go_upto_region 4 with (go_at_call 85; with_reducible refine (P0 _ G0).mono ?_; rintro e w1 ⟨rfl, G1⟩)
    have g1 := G0.trans G1
    have c1 := C0 _ g1
    have l1 := L0 _ g1.drew
    have HB2 := HB1.on G1
    have HB3 := HB0'.on G1
    obtain ⟨z0, y0⟩ := box0 HB2
    obtain ⟨z1, y1⟩ := box1 HB2
    obtain ⟨x0, _⟩ := box0 HB3
    obtain ⟨x1, _⟩ := box1 HB3
    have c1a := C0 _ (g1.trans (Gw.alloc w1 (.cells #[.int .i64 0, .bool false] 100)))
    have l1a := L0 _ (g1.trans (Gw.alloc w1 (.cells #[.int .i64 0, .bool false] 100))).drew
    obtain ⟨x0a, _⟩ := box0 (HB3.on (Gw.alloc w1 (.cells #[.int .i64 0, .bool false] 100)))
    obtain ⟨x1a, _⟩ := box1 (HB3.on (Gw.alloc w1 (.cells #[.int .i64 0, .bool false] 100)))
    clear L0 P0 C0 G1 HB1 HB0 HB0'
    go_cut [7, 8] (fun s7 s8 wx => ∃ b7, s7 = .pointer (some ⟨b7, 0, none⟩) ∧ s8 = .bool o.isSome ∧ Hid (Has wx b7 100 #[.int .i64 (lkN o), .bool (lkD o)]) ∧ Hid (w1.heap.size ≤ b7) ∧ Hid (Gw w1 wx))
    case first =>
      go_region_law (fail)
      all_goals (
        go_wp2_with fail
        go_meet
        exact ⟨_, rfl, rfl, Has.new w1 _ _, Nat.le_refl _, (Gw.alloc w1 _).drew⟩)
    case rest =>
      obtain ⟨b7, rfl, rfl, H7, hb7, GX⟩ := hcut
      have HB4 := HB2.on GX.out
      have gx := Lib.hid (g1.trans GX.out)
      obtain ⟨k0, q0⟩ := box0 HB4
      obtain ⟨k1, q1⟩ := box1 HB4
      obtain ⟨m0, _⟩ := box0 H7.out
      obtain ⟨m1, _⟩ := box1 H7.out
      clear l1 l1a c1 c1a z0 z1 y0 y1 x0 x1 x0a x1a GX H7 hb7 HB2 HB3
      cases o with
      | none =>
        simp only [lkN, lkD] at m0 m1
        go_wp2
        refine bodyPost_ret (results_row2 rfl _ _ (W.heap.size + 1) _ _ _ _ rfl ((HB4.put 0 (.int .i64 (-1))).put 1 (.bool false)) Try.underlying100 (by kernel_rfl)) rfl ?_
        exact ⟨rfl, ((But.set _ _ _ _).trans (But.set _ _ _ _)).gw gx.out (by omega)⟩
      | some i =>
        simp only [lkN, lkD] at m0 m1
        go_wp2
        refine bodyPost_ret (results_row2 rfl _ _ (W.heap.size + 1) _ _ _ _ rfl ((HB4.put 0 (.int .i64 i.n)).put 1 (.bool i.d)) Try.underlying100 (by kernel_rfl)) rfl ?_
        exact ⟨rfl, ((But.set _ _ _ _).trans (But.set _ _ _ _)).gw gx.out (by omega)⟩
  · rw [if_neg e0]
    have e1 : ((plI s.l p) == 0) = false := beq_false_of_ne e0
    generalize plI s.l p = r at P0 e0 e1 ⊢
    clear hpl
    go_enter Try.func57, Try.ntmps57
    go_wp2_with (go_at_call 85; with_reducible refine (P0 _ G0).mono ?_; rintro e w1 ⟨rfl, G1⟩; have HB2 := HB1.on G1; obtain ⟨z0, y0⟩ := box0 HB2; obtain ⟨z1, y1⟩ := box1 HB2; obtain ⟨x0, _⟩ := box0 (HB0'.on G1); obtain ⟨x1, _⟩ := box1 (HB0'.on G1))
    refine bodyPost_ret (results_row2 rfl _ _ (W.heap.size + 1) _ _ _ _ rfl ((HB2.put 0 (.int .i64 (-1))).put 1 (.bool false)) Try.underlying100 (by kernel_rfl)) rfl ?_
    exact ⟨rfl, ((But.set _ _ _ _).trans (But.set _ _ _ _)).gw (G0.trans G1) (by omega)⟩
end Go.Proofs.Ytckoapfmfpmdgaa
