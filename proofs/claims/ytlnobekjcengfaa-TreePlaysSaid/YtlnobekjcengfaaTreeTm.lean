/-
  The program's own tree in memory: a map whose keys are the two parts of a name, whose elements are entries; what its laws say of the tree as plain data.
-/
import Derived.Test.YtlnobekjcengfaaTreeX
import Derived.Test.YtlnobekjcengfaaNameH
import Derived.Maps.OwnSet
import Derived.Maps.RangeWalk
import Derived.DeepKeys5
namespace Go.Proofs.Ytlnobekjcengfaa
open Go.ChangeShapes Go.WideShapes Go.ChangeAt Go.RowKit Go.Joins
set_option linter.unusedVariables false
set_option linter.unusedSimpArgs false

abbrev tK : TypeId := 75
abbrev tE : TypeId := 77
abbrev tMp : TypeId := 64
theorem keyedName : Maps.Keyed Try.prog tK := Maps.Keyed.of_law (deep_law_gate (by kernel_rfl) (of_decide_eq_true (by kernel_rfl)) (of_decide_eq_true (by kernel_rfl)) (by kernel_rfl) (by kernel_rfl))
abbrev Pr := List UInt8 × List UInt8
/-- Two parts as a value, and as a key. -/
abbrev tV (p : Pr) : Value := .agg #[.string (bs p.1), .string (bs p.2)]
def nkl (p : Pr) : Lit := .string (keyBytes [.string p.1, .string p.2])
structure Pk (p : Pr) : Prop where
  a : p.1.length ≤ 8
  b : p.2.length ≤ 8
theorem ktypeN : Try.prog.keyType tK = true := by kernel_rfl
theorem cellsN : Try.prog.cellsOf tK = 2 := by kernel_rfl
theorem cellsS : Try.prog.cellsOf 9 = 1 := by kernel_rfl
theorem types_two : ∃ k, Try.prog.types.size + 1 = k + 2 := ⟨Try.prog.types.size - 1, by have : 1 ≤ Try.prog.types.size := of_decide_eq_true (by kernel_rfl); omega⟩
theorem key_of {p : Pr} (h : Pk p) : keyOf Try.prog tK (tV p) = some (nkl p) := by
  obtain ⟨p1, p2⟩ := p
  have h1 : (bs p1).size ≤ maxLen := by rw [bs_size]; have := h.a; have : maxLen = 9223372036854775807 := rfl; simp only at *; omega
  have h2 : (bs p2).size ≤ maxLen := by rw [bs_size]; have := h.b; have : maxLen = 9223372036854775807 := rfl; simp only at *; omega
  obtain ⟨k, hk⟩ := types_two
  unfold keyOf
  rw [Try.underlying75, hk]
  simp only [ktypeN, Value.formed, Try.underlying75, cellsN, Value.cells]
  simp [Program.keyLits, Try.underlying75, Try.underlying9, cellsN, cellsS, h1, h2, nkl, bs_data]
theorem nkl_inj {p q : Pr} (h : Pk p) (k : Pk q) (e : nkl p = nkl q) : p = q := by
  have := keyedName.inj (key_of h) (e ▸ key_of k)
  have h2 : bs p.1 = bs q.1 ∧ bs p.2 = bs q.2 := by simpa using this
  exact Prod.ext (bs_inj h2.1) (bs_inj h2.2)
theorem nkl_key {p : Pr} (h : Pk p) : WideAt.IsKeyLit (nkl p) := keyedName.key (key_of h)
theorem pk_spl (l : List UInt8) : Pk (spl l) := by
  cases h : nameB l with
  | false => rw [spl_no h]; exact ⟨by decide, by decide⟩
  | true =>
    rcases name_cases h with ⟨_, h0, h2, _⟩ | ⟨a, b, c, h1, _, _, _, h0, h2, _⟩
    · rw [h2]; exact ⟨by simp, h0⟩
    · rw [h2]
      have : l.length = a.length + b.length + 1 := by rw [h1]; simp; omega
      exact ⟨by simp only; omega, by simp only; omega⟩
theorem pk_up {p : Pr} (h : Pk p) : Pk ([], p.1) := ⟨by simp, h.a⟩
theorem pk_nil : Pk ([], []) := ⟨by decide, by decide⟩

/-! ### An element -/
def entD (n : Int) (d : Bool) : DataW Unit := .agg [.lit (.int .i64 n), .lit (.bool d)]
abbrev entV (n : Int) (d : Bool) : Value := .agg #[.int .i64 n, .bool d]
def eElem : Value → Option (DataW Unit × List MemPlace)
  | .agg ⟨[.int .i64 n, .bool d]⟩ => some (entD n d, [])
  | _ => none
theorem eElem_mk (n : Int) (d : Bool) : eElem (entV n d) = some (entD n d, []) := rfl
theorem eElem_inv {v : Value} {y : DataW Unit × List MemPlace} (h : eElem v = some y) : ∃ n d, v = entV n d ∧ y = (entD n d, []) := by
  unfold eElem at h
  split at h
  · rename_i n d; cases h; exact ⟨n, d, rfl, rfl⟩
  · cases h
theorem entD_inj {n m : Int} {d e : Bool} (h : entD n d = entD m e) : n = m ∧ d = e := by
  unfold entD at h
  simp at h
  exact h

/-! ### What the map reads as -/
abbrev isN (p : Pr) : Itm → Bool := fun i => decide (spl i.p = p)
def nlook (l : List Itm) (p : Pr) : Option Itm := l.find? (isN p)
def entK (i : Itm) : Lit × DataW Unit := (nkl (spl i.p), entD i.n i.d)
def MpIs (D : DataW Unit) (l : List Itm) : Prop := ∃ es, D = .map es ∧ es.Perm (l.map entK)
theorem MpIs.start : MpIs (.map []) [] := ⟨[], rfl, List.Perm.nil⟩
theorem MpIs.perm {D : DataW Unit} {l l' : List Itm} (h : MpIs D l) (k : l.Perm l') : MpIs D l' := by
  obtain ⟨es, h1, h2⟩ := h
  exact ⟨es, h1, h2.trans (k.map _)⟩
theorem MpIs.size {D : DataW Unit} {l : List Itm} (h : MpIs D l) : Maps.size D = l.length := by
  obtain ⟨es, rfl, h2⟩ := h
  rw [Maps.size_eq, h2.length_eq, List.length_map]
theorem nlook_mem {l : List Itm} {p : Pr} {i : Itm} (h : nlook l p = some i) : i ∈ l ∧ spl i.p = p := ⟨List.mem_of_find?_eq_some h, of_decide_eq_true (List.find?_some (p := isN p) h)⟩
theorem nlook_not {l : List Itm} {p : Pr} (h : nlook l p = none) : ∀ i ∈ l, spl i.p ≠ p := fun i hi e => by
  have := List.find?_eq_none.1 h i hi
  exact this (by simp [e])
theorem MpIs.only {D : DataW Unit} {l : List Itm} (h : MpIs D l) {k : Lit} (hk : Maps.has D k = true) : ∃ i ∈ l, k = nkl (spl i.p) := by
  obtain ⟨es, rfl, h2⟩ := h
  rw [Maps.has_eq] at hk
  obtain ⟨q, hq, he⟩ := List.any_eq_true.1 hk
  obtain ⟨i, hi, rfl⟩ := List.mem_map.1 (h2.mem_iff.1 hq)
  exact ⟨i, hi, (WideAt.sameKey_eq he).symm⟩
theorem MpIs.miss {D : DataW Unit} {l : List Itm} (h : MpIs D l) {p : Pr} (hp : Pk p) (hn : nlook l p = none) : Maps.has D (nkl p) = false := by
  cases hk : Maps.has D (nkl p) with
  | false => rfl
  | true =>
    obtain ⟨i, hi, he⟩ := h.only hk
    exact absurd (nkl_inj hp (pk_spl i.p) he).symm (nlook_not hn i hi)
theorem MpIs.hit {D : DataW Unit} {l : List Itm} (h : MpIs D l) (ok : Ok l) {p : Pr} (hp : Pk p) {i : Itm} (hn : nlook l p = some i) : Maps.has D (nkl p) = true ∧ ∀ z, D.atKey (nkl p) z = entD i.n i.d := by
  obtain ⟨es, rfl, h2⟩ := h
  obtain ⟨hi, he⟩ := nlook_mem hn
  have hm : entK i ∈ es := h2.mem_iff.2 (List.mem_map.2 ⟨i, hi, rfl⟩)
  have hs : (entK i).1.sameKey (nkl p) = true := by show (nkl (spl i.p)).sameKey (nkl p) = true; rw [he]; exact WideAt.sameKey_self (nkl_key hp)
  refine ⟨by rw [Maps.has_eq]; exact List.any_eq_true.2 ⟨_, hm, hs⟩, fun z => ?_⟩
  cases hf : es.find? (fun q => q.1.sameKey (nkl p)) with
  | none => exact absurd hs (List.find?_eq_none.1 hf _ hm)
  | some q =>
    have hq := List.mem_of_find?_eq_some hf
    have hqs : q.1.sameKey (nkl p) = true := List.find?_some (p := fun q : Lit × DataW Unit => q.1.sameKey (nkl p)) hf
    obtain ⟨j, hj, rfl⟩ := List.mem_map.1 (h2.mem_iff.1 hq)
    have e1 : spl j.p = p := nkl_inj (pk_spl j.p) hp (WideAt.sameKey_eq hqs)
    have e2 : j = i := ok.same hj hi (spl_inj (ok.nm j hj) (ok.nm i hi) (e1.trans he.symm))
    subst e2
    unfold DataW.atKey
    simp only [hf]
    rfl
theorem map_filter_ent (l : List Itm) (hl : ∀ i ∈ l, nameB i.p = true) (b : List UInt8) (hb : nameB b = true) : (l.map entK).filter (ChangeMaps.notKey (nkl (spl b))) = (l.filter (fun i => i.p != b)).map entK := by
  rw [List.filter_map]
  congr 1
  refine List.filter_congr fun i hi => ?_
  show (!(nkl (spl i.p)).sameKey (nkl (spl b))) = _
  by_cases e : i.p = b
  · rw [e, WideAt.sameKey_self (nkl_key (pk_spl b))]; simp
  · have h1 : ¬ nkl (spl i.p) = nkl (spl b) := fun h => e (spl_inj (hl i hi) hb (nkl_inj (pk_spl _) (pk_spl _) h))
    rw [Maps.sameKey_ne h1]; simp [e]
theorem MpIs.put {D : DataW Unit} {l : List Itm} (h : MpIs D l) (hl : ∀ i ∈ l, nameB i.p = true) {b : List UInt8} (hb : nameB b = true) (n : Int) (d : Bool) : MpIs (D.put (nkl (spl b)) (entD n d)) (⟨b, d, n⟩ :: l.filter (fun i => i.p != b)) := by
  obtain ⟨es, rfl, h2⟩ := h
  refine ⟨_, DataW.put_eq _ _ _, ?_⟩
  unfold ChangeMaps.putKey
  refine (insert_perm _ _).trans ?_
  rw [List.map_cons, ← map_filter_ent l hl b hb]
  exact (h2.filter _).cons _
theorem MpIs.del {D : DataW Unit} {l : List Itm} (h : MpIs D l) (hl : ∀ i ∈ l, nameB i.p = true) {b : List UInt8} (hb : nameB b = true) : MpIs (D.del (nkl (spl b))) (l.filter (fun i => i.p != b)) := by
  obtain ⟨es, rfl, h2⟩ := h
  refine ⟨_, DataW.del_eq _ _, ?_⟩
  unfold ChangeMaps.delKey
  rw [← map_filter_ent l hl b hb]
  exact h2.filter _
theorem not_filter {l : List Itm} {b : List UInt8} (h : ∀ i ∈ l, i.p ≠ b) : l.filter (fun i => i.p != b) = l := List.filter_eq_self.2 fun i hi => by simp [h i hi]
theorem erase_filter {l : List Itm} (h : (l.map (·.p)).Nodup) (b : List UInt8) : l.eraseP (is b) = l.filter (fun i => i.p != b) := by
  induction l with
  | nil => rfl
  | cons i l ih =>
    rw [List.map_cons, List.nodup_cons] at h
    by_cases e : i.p = b
    · have hn : ∀ j ∈ l, j.p ≠ b := fun j hj k => h.1 (List.mem_map.2 ⟨j, hj, k.trans e.symm⟩)
      rw [List.eraseP_cons_of_pos (by simp [is, e]), List.filter_cons_of_neg (by simp [e]), not_filter hn]
    · rw [List.eraseP_cons_of_neg (by simp [is, e]), List.filter_cons_of_pos (by simp [e]), ih h.2]
theorem ren_perm {l : List Itm} (h : (l.map (·.p)).Nodup) {a : List UInt8} {i : Itm} (hi : look l a = some i) (b : List UInt8) : (ren a b l).Perm (⟨b, i.d, i.n⟩ :: l.filter (fun i => i.p != a)) := by
  induction l with
  | nil => cases hi
  | cons j l ih =>
    rw [List.map_cons, List.nodup_cons] at h
    by_cases e : j.p = a
    · have hn : ∀ k ∈ l, k.p ≠ a := fun k hk q => h.1 (List.mem_map.2 ⟨k, hk, q.trans e.symm⟩)
      have : j = i := by
        unfold look at hi
        rw [List.find?_cons_of_pos (by simp [is, e])] at hi
        cases hi; rfl
      subst this
      rw [ren, if_pos e, List.filter_cons_of_neg (by simp [e]), not_filter hn]
    · have hi' : look l a = some i := by unfold look at hi ⊢; rwa [List.find?_cons_of_neg (by simp [is, e])] at hi
      rw [ren, if_neg e, List.filter_cons_of_pos (by simp [e])]
      exact ((ih h.2 hi').cons j).trans (List.Perm.swap _ _ _)
theorem find_same {l : List Itm} {f g : Itm → Bool} (h : ∀ i ∈ l, f i = g i) : l.find? f = l.find? g := by
  induction l with
  | nil => rfl
  | cons j l ih => rw [List.find?_cons, List.find?_cons, h j (List.mem_cons_self ..), ih (fun k hk => h k (List.mem_cons_of_mem _ hk))]
theorem nlook_look {l : List Itm} (ok : Ok l) {p : List UInt8} (hp : nameB p = true) : nlook l (spl p) = look l p :=
  find_same fun i hi => by
    show decide (spl i.p = spl p) = (i.p == p)
    by_cases e : i.p = p
    · rw [e]; simp
    · rw [decide_eq_false (fun h => e (spl_inj (ok.nm i hi) hp h)), beq_false_of_ne e]
end Go.Proofs.Ytlnobekjcengfaa
