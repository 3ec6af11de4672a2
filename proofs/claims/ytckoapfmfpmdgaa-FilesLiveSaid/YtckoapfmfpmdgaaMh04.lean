/-
  Parts of the proof, joined: FzB, NameB, NameS, TreeR, TreeW, TreeF, TreeC, TreeK, TreeD, TreeV, TreeN, FileR, FileA, FileB, FileC, FileS.
-/
import Derived.Test.YtckoapfmfpmdgaaMh03
import Derived.Test.YtckoapfmfpmdgaaMh01
import Derived.Maps.OwnSet
import Derived.Maps.RangeWalk
import Derived.Deep.RegionLaw
import Derived.Laws.IdiomStrings
import Derived.BigRegion
import Derived.Deep.CutBlock
import Derived.Deep.CutRange
import Derived.Deep.DeepCutAuto
import Derived.Maps.AppendAt
import Derived.Test.YtckoapfmfpmdgaaMh02

namespace Go.Proofs.Ytckoapfmfpmdgaa
open Go.ChangeShapes Go.WideShapes Go.ChangeAt Go.RowKit Go.Joins
set_option linter.unusedVariables false
set_option linter.unusedSimpArgs false

/-- An element reads as itself. -/
def idR : Value → Option (DataW Value × List MemPlace) := fun v => some (.held v, [])
theorem held_inj {a b : Value} (h : (DataW.held a : DataW Value) = .held b) : a = b := by injection h
/-- The map of numbers that a datum is. -/
structure IM (q : IntKind) (D : DataW Value) (m : Nat → Option Value) : Prop where
  only : ∀ kl, Maps.has D kl = true → ∃ k : Nat, kl = .int q (k : Int) ∧ (m k).isSome = true
  at_ : ∀ k v, m k = some v → Maps.has D (.int q (k : Int)) = true ∧ ∀ z, D.atKey (.int q (k : Int)) z = .held v
theorem IM.start (q : IntKind) : IM q (.map []) (fun _ => none) := ⟨fun kl h => (by cases h), fun k v h => (by cases h)⟩
theorem lit_inj {q : IntKind} {a b : Nat} (h : Lit.int q (a : Int) = .int q (b : Int)) : a = b := by injection h with _ h; omega
theorem lit_inj2 {q : IntKind} {a b : Int} (h : Lit.int q a = .int q b) : a = b := by cases h; rfl
theorem idR_inj {v x : Value} {y : DataW Value × List MemPlace} (h : idR v = some y) (k : y.1 = .held x) : v = x := by cases h; exact held_inj k
theorem IM.miss {q : IntKind} {D : DataW Value} {m : Nat → Option Value} (h : IM q D m) {k : Nat} (hk : m k = none) : Maps.has D (.int q (k : Int)) = false := by
  cases e : Maps.has D (.int q (k : Int)) with
  | false => rfl
  | true =>
    obtain ⟨j, h1, h2⟩ := h.only _ e
    rw [← lit_inj h1, hk] at h2
    cases h2
theorem IM.put {q : IntKind} {D : DataW Value} {m : Nat → Option Value} (h : IM q D m) (hD : Maps.IsMap D) {k : Nat} (v : Value) : IM q (D.put (.int q (k : Int)) (.held v)) (setM m k (some v)) := by
  have hk : WideAt.IsKeyLit (.int q (k : Int)) := trivial
  refine ⟨fun kl hl => ?_, fun j x hj => ?_⟩
  · by_cases e : kl = .int q (k : Int)
    · exact ⟨k, e, by rw [setM_same]; rfl⟩
    · rw [Maps.has_put_other e] at hl
      obtain ⟨j, h1, h2⟩ := h.only kl hl
      exact ⟨j, h1, by rw [setM_ne _ _ (fun he => e (by rw [h1, he]))]; exact h2⟩
  · rcases setM_some hj with ⟨rfl, e⟩ | ⟨hne, hj⟩
    · cases e
      exact ⟨Maps.has_put_same hD hk _, fun z => Maps.atKey_put_same hD hk _ z⟩
    · have hne' : Lit.int q (j : Int) ≠ .int q (k : Int) := fun e => hne (lit_inj e)
      obtain ⟨h1, h2⟩ := h.at_ j x hj
      exact ⟨by rw [Maps.has_put_other hne']; exact h1, fun z => by rw [Maps.atKey_put_other hne']; exact h2 z⟩
theorem IM.del {q : IntKind} {D : DataW Value} {m : Nat → Option Value} (h : IM q D m) (k : Nat) : IM q (D.del (.int q (k : Int))) (setM m k none) := by
  refine ⟨fun kl hl => ?_, fun j x hj => ?_⟩
  · by_cases e : kl = .int q (k : Int)
    · rw [e, Maps.has_del_same] at hl; cases hl
    · rw [Maps.has_del_other e] at hl
      obtain ⟨j, h1, h2⟩ := h.only kl hl
      exact ⟨j, h1, by rw [setM_ne _ _ (fun he => e (by rw [h1, he]))]; exact h2⟩
  · rcases setM_some hj with ⟨_, e⟩ | ⟨hne, hj⟩
    · cases e
    · have hne' : Lit.int q (j : Int) ≠ .int q (k : Int) := fun e => hne (lit_inj e)
      obtain ⟨h1, h2⟩ := h.at_ j x hj
      exact ⟨by rw [Maps.has_del_other hne']; exact h1, fun z => by rw [Maps.atKey_del_other hne']; exact h2 z⟩
theorem nat_few : ∀ (M : Nat) (l : List Nat), l.Nodup → (∀ k ∈ l, k < M) → l.length ≤ M
  | 0, l, _, h => by
    cases l with
    | nil => simp
    | cons a l => exact absurd (h a (List.mem_cons_self ..)) (Nat.not_lt_zero a)
  | M + 1, l, hn, h => by
    have h1 := nat_few M (l.erase M) (hn.erase M) fun k hk => by
      have h2 := h k (List.mem_of_mem_erase hk)
      have h3 : k ≠ M := fun e => by subst e; exact (List.Nodup.not_mem_erase hn) hk
      omega
    by_cases hm : M ∈ l
    · rw [List.length_erase_of_mem hm] at h1; omega
    · rw [List.erase_of_not_mem hm] at h1; omega
/-- As many as there are numbers below M. -/
theorem IM.few {q : IntKind} {es : List (Lit × DataW Value)} {m : Nat → Option Value} (h : IM q (.map es) m) (hp : es.Pairwise (fun p q => p.1 ≠ q.1)) (hk : ∀ p ∈ es, WideAt.IsKeyLit p.1) {M : Nat} (hM : ∀ k, (m k).isSome = true → k < M) : es.length ≤ M := by
  have hkey : ∀ p ∈ es, ∃ k : Nat, p.1 = .int q (k : Int) ∧ (m k).isSome = true := fun p hp' => h.only p.1 (by
    rw [Maps.has_eq]
    exact List.any_eq_true.2 ⟨p, hp', WideAt.sameKey_self (hk p hp')⟩)
  let f : Lit × DataW Value → Nat := fun p => match p.1 with | .int _ k => k.toNat | _ => 0
  have hf : ∀ p ∈ es, p.1 = .int q (f p : Int) ∧ (m (f p)).isSome = true := fun p hp' => by
    obtain ⟨k, h1, h2⟩ := hkey p hp'
    have : f p = k := by show (match p.1 with | .int _ k => k.toNat | _ => 0) = k; rw [h1]; rfl
    rw [this]; exact ⟨h1, h2⟩
  have := nat_few M (es.map f) (by
    unfold List.Nodup
    rw [List.pairwise_map]
    refine List.Pairwise.imp_of_mem (fun {a b} ha hb hne e => hne ?_) hp
    rw [(hf a ha).1, (hf b hb).1, e]) (fun k hk' => by
    obtain ⟨p, hp', rfl⟩ := List.mem_map.1 hk'
    exact hM _ (hf p hp').2)
  simpa using this
/-- Block b is a map of numbers. -/
def NM (w : World) (t : TypeId) (q : IntKind) (b : Nat) (m : Nat → Option Value) : Prop := ∃ n D, w.ownsMap Try.prog t idR b n D ∧ IM q D m
theorem nmown_same {w w' : World} {t : TypeId} {b n : Nat} {D : DataW Value} (h : w.ownsMap Try.prog t idR b n D) (e : w'.heap[b]? = w.heap[b]?) : w'.ownsMap Try.prog t idR b n D := by
  obtain ⟨es, clock, hb, r⟩ := h
  exact ⟨es, clock, e.trans hb, r⟩
section
variable {w w' : World} {t : TypeId} {q : IntKind} {b : Nat} {m : Nat → Option Value}
theorem NM.lt (h : NM w t q b m) : b < w.heap.size := by obtain ⟨n, D, h1, _⟩ := h; exact h1.lt
theorem NM.same (h : NM w t q b m) (e : w'.heap[b]? = w.heap[b]?) : NM w' t q b m := by
  obtain ⟨n, D, h1, h2⟩ := h
  exact ⟨n, D, nmown_same h1 e, h2⟩
theorem NM.on (h : NM w t q b m) (G : Gw w w') : NM w' t q b m := h.same (G.block b h.lt)
theorem NM.to (h : NM w t q b m) {m' : Nat → Option Value} (e : ∀ k, m k = m' k) : NM w t q b m' := by
  rw [← funext e]; exact h
theorem NM.made (w : World) (t : TypeId) (q : IntKind) : NM (w.alloc (.map #[] 0)) t q w.heap.size (fun _ => none) := ⟨0, _, World.ownsMap_made w _ _ _, IM.start q⟩
theorem keyOf_num {t : TypeId} {q : IntKind} (ht : Try.prog.underlying t = some (.int q)) {k : Nat} (hw : (Lit.int q (k : Int)).wf = true) : keyOf Try.prog t (.int q (k : Int)) = some (.int q (k : Int)) := by
  simp [keyOf, ht, mapKey, hw]
theorem NM.look_ok {mt e : TypeId} (h : NM w t q b m) (ht : Try.prog.underlying t = some (.int q)) (hm : Try.prog.underlying mt = some (.map t e)) {z : Value} (hz : (zeroValue e).run Try.prog w = .ok z w) {k : Nat} (hw : (Lit.int q (k : Int)).wf = true) :
    (Instr.lookup mt (.map (some b)) (.int q (k : Int)) true).run Try.prog w = .ok (.tuple #[(m k).getD z, .bool (m k).isSome]) w := by
  obtain ⟨n, D, h1, h2⟩ := h
  obtain ⟨v, ps, hr, hv⟩ := h1.look_ok (Maps.int_keyed ht) hm hz (rfl : idR z = some (.held z, [])) (keyOf_num ht hw)
  rw [hr]
  cases hk : m k with
  | none =>
    have e1 := h2.miss hk
    rw [Maps.atKey_of_not_has e1] at hv
    rw [e1, held_inj (Prod.mk.inj (Option.some.inj hv)).1]
    rfl
  | some x =>
    obtain ⟨e1, e2⟩ := h2.at_ k x hk
    rw [e2] at hv
    rw [e1, held_inj (Prod.mk.inj (Option.some.inj hv)).1]
    rfl
theorem NM.look {mt e : TypeId} (h : NM w t q b m) (ht : Try.prog.underlying t = some (.int q)) (hm : Try.prog.underlying mt = some (.map t e)) {z : Value} (hz : (zeroValue e).run Try.prog w = .ok z w) {k : Nat} (hw : (Lit.int q (k : Int)).wf = true) :
    (Instr.lookup mt (.map (some b)) (.int q (k : Int)) false).run Try.prog w = .ok ((m k).getD z) w := by
  obtain ⟨n, D, h1, h2⟩ := h
  obtain ⟨v, ps, hr, hv⟩ := h1.lookup (Maps.int_keyed ht) hm hz (rfl : idR z = some (.held z, [])) (keyOf_num ht hw)
  rw [hr]
  cases hk : m k with
  | none =>
    have e1 := h2.miss hk
    rw [Maps.atKey_of_not_has e1] at hv
    rw [held_inj (Prod.mk.inj (Option.some.inj hv)).1]
    rfl
  | some x =>
    obtain ⟨e1, e2⟩ := h2.at_ k x hk
    rw [e2] at hv
    rw [held_inj (Prod.mk.inj (Option.some.inj hv)).1]
    rfl
theorem NM.tight (h : NM w t q b m) (ht : Try.prog.underlying t = some (.int q)) {M : Nat} (hM : ∀ k, (m k).isSome = true → k < M) : ∃ D, w.ownsMap Try.prog t idR b M D ∧ IM q D m := by
  obtain ⟨n, D, h1, h2⟩ := h
  obtain ⟨es, rfl, hp, hk⟩ := h1.entries (Maps.int_keyed ht)
  have hle := h2.few hp hk hM
  obtain ⟨es', clock, hb, F, hs, e⟩ := h1
  refine ⟨.map es, ⟨es', clock, hb, F, ?_, e⟩, h2⟩
  injection e with e
  rw [e, length_sorted] at hle
  simpa using hle
theorem NM.store {mt e : TypeId} (h : NM w t q b m) (ht : Try.prog.underlying t = some (.int q)) (hm : Try.prog.underlying mt = some (.map t e)) {M : Nat} (hM : ∀ k, (m k).isSome = true → k < M) (hB : M < maxLen) {k : Nat} (hw : (Lit.int q (k : Int)).wf = true) (v : Value) :
    ∃ w', (Instr.mapUpdate mt (.map (some b)) (.int q (k : Int)) v).run Try.prog w = .ok () w' ∧ NM w' t q b (setM m k (some v)) ∧ w.mapTurned w' b := by
  obtain ⟨D, h1, h2⟩ := h.tight ht hM
  obtain ⟨w', hr, h3, h4⟩ := h1.store (Maps.int_keyed ht) hm hB (keyOf_num ht hw) (rfl : idR v = some (.held v, []))
  exact ⟨w', hr, ⟨_, _, h3, h2.put h1.isMap v⟩, h4⟩
theorem NM.drop {mt e : TypeId} (h : NM w t q b m) (ht : Try.prog.underlying t = some (.int q)) (hm : Try.prog.underlying mt = some (.map t e)) {k : Nat} (hw : (Lit.int q (k : Int)).wf = true) (ty : TypeId) :
    ∃ w', (Builtin.delete_ #[mt, t] ty #[.map (some b), .int q (k : Int)]).run Try.prog w = .ok (.tuple #[]) w' ∧ NM w' t q b (setM m k none) ∧ w.mapTurned w' b := by
  obtain ⟨n, D, h1, h2⟩ := h
  obtain ⟨w', hr, h3, h4⟩ := h1.drop (Maps.int_keyed ht) hm (keyOf_num ht hw) ty
  exact ⟨w', hr, ⟨_, _, h3, h2.del k⟩, h4⟩
end
/-! ### Ranges -/
/-- Those that are left of a range are numbers of the map. -/
theorem nranges_has {w : World} {t : TypeId} {q : IntKind} {b r n cnt : Nat} {D : DataW Value} {left : Lit → Bool} (ht : Try.prog.underlying t = some (.int q)) (h : w.ranges Try.prog t idR b r n D left cnt) {kl : Lit} (hk : left kl = true) : Maps.has D kl = true := by
  obtain ⟨es, clock, since, seen, c0, hb, F, hs, rfl, hr, hold, rfl, hl1, hl2, hsc, hsk⟩ := h
  obtain ⟨x, hx, rfl⟩ := hl2 kl hk
  obtain ⟨y, hy⟩ := F.reads x hx
  rw [Maps.has_eq]
  exact List.any_eq_true.2 ⟨_, mem_sorted.2 (List.mem_map.2 ⟨x, hx, rfl⟩), WideAt.sameKey_self (by rw [WideElems.rg_of hy]; exact (Maps.int_keyed ht).key (WideElems.rd_key hy))⟩
theorem nranges_same {w w' : World} {t : TypeId} {b r n cnt : Nat} {D : DataW Value} {left : Lit → Bool} (h : w.ranges Try.prog t idR b r n D left cnt) (e1 : w'.heap[b]? = w.heap[b]?) (e2 : w'.heap[r]? = w.heap[r]?) : w'.ranges Try.prog t idR b r n D left cnt := by
  obtain ⟨es, clock, since, seen, c0, hb, F, hs, hD, hr, rest⟩ := h
  exact ⟨es, clock, since, seen, c0, e1.trans hb, F, hs, hD, e2.trans hr, rest⟩
theorem nranges_on {w w' : World} {t : TypeId} {b r n cnt : Nat} {D : DataW Value} {left : Lit → Bool} (h : w.ranges Try.prog t idR b r n D left cnt) (G : Gw w w') : w'.ranges Try.prog t idR b r n D left cnt := nranges_same h (G.block _ h.owns.lt) (G.block _ h.lt)
theorem wpList_next_num {ops : Array Oper} {rest : List Oper} {o : Oper} {a : Act} {Q : Exit → Act → World → Prop} (w : World) (hg : o.guard = none) (it : Operand) (hop : o.op = Op.next it false) (t : TypeId) (q : IntKind) (ht : Try.prog.underlying t = some (.int q)) (b r n : Nat) (D : DataW Value) (left : Lit → Bool) (cnt : Nat) (m : Nat → Option Value) (hM : IM q D m)
    (hit : a.eval it = .pointer (some ⟨r, 0, none⟩)) (h : w.ranges Try.prog t idR b r n D left cnt)
    (hDone : (∀ kl, left kl = false) → wpList Try.prog ops Q rest (a.put o.dst (.tuple #[.bool false])) w)
    (hMore : ∀ (k : Nat) (v : Value) (w' : World) (cnt' : Nat), m k = some v → left (.int q (k : Int)) = true → w'.ranges Try.prog t idR b r n D (fun z => left z && !z.sameKey (.int q (k : Int))) cnt' → cnt' < cnt →
      w.grownBy w' (some r) → w'.heap.size = w.heap.size → (Instr.entry (.pointer (some ⟨r, 0, none⟩))).run Try.prog w' = .ok (.tuple #[.int q (k : Int), v]) w' → wpList Try.prog ops Q rest (a.put o.dst (.tuple #[.bool true, .int q (k : Int), v])) w') :
    wpList Try.prog ops Q (o :: rest) a w := by
  refine wpList_plain hg fun K' hK' => ?_
  unfold Oper.wp
  rcases h.next (Maps.int_keyed ht) o.type with ⟨h0, hl, hrun⟩ | ⟨key, v, kl, y, w', cnt', hkey, hlk, hv, hat, hrun, hrg, hlt, hgr, hsz, hen⟩
  · simp [execOp, hop, hit, hrun, Result.andThen]
    exact hK' _ _ (hDone hl)
  · obtain ⟨k, rfl, hks⟩ := hM.only kl (nranges_has ht h hlk)
    obtain ⟨x, rfl, e, hw⟩ := Maps.keyOf_int_inv ht hkey
    obtain rfl : (k : Int) = x := lit_inj2 e
    obtain ⟨v', hv'⟩ := Option.isSome_iff_exists.1 hks
    obtain rfl : v = v' := idR_inj hv ((hat (.held v)).symm.trans ((hM.at_ k v' hv').2 _))
    simp [execOp, hop, hit, hrun, Result.andThen]
    exact hK' _ _ (hMore k v w' cnt' hv' hlk hrg hlt hgr hsz hen)
end Go.Proofs.Ytckoapfmfpmdgaa

namespace Go.Proofs.Ytckoapfmfpmdgaa
open Go.ChangeShapes Go.WideShapes Go.ChangeAt Go.RowKit Go.Joins
set_option linter.unusedVariables false

def pstr (p : List UInt8) : Value := .string ⟨p.toArray⟩
/-- A row of texts of the call's own. -/
structure TRel (w wr : World) (g cap : Nat) (ps : List (List UInt8)) : Prop where
  own : wr.ownsRow w.heap.size 9 1 (.slice (some ⟨g, 0, none⟩) ps.length cap) ps.length (ps.map pstr)
  gw : Gw w wr
theorem TRel.put {w wr : World} {g cap : Nat} {ps : List (List UInt8)} {c : UInt8} (h : TRel w wr g cap ps) (hc : ¬ c.toNat = 47) (h0 : 0 < ps.length) {o : Obj} :
    TRel w ((wr.alloc o).setCell ⟨g, ps.length - 1, none⟩ (pstr (ps.getLastD [] ++ [c]))) g cap (addC ps c) := by
  have h1 := h.own.alloc o
  have hb := (h.own.lt g rfl).1
  refine ⟨?_, (But.set g _ _ _).gw (h.gw.trans (Gw.alloc wr o)) hb⟩
  have h2 := (World.ownsRow.stored h1 (ps.length - 1) (pstr (ps.getLastD [] ++ [c]))).1
  rw [addC_len ps c hc h0]
  have e : (addC ps c).map pstr = (ps.map pstr).set (ps.length - 1) (pstr (ps.getLastD [] ++ [c])) := by
    unfold addC
    rw [if_neg hc]
    obtain ⟨qs, q, rfl⟩ : ∃ qs q, ps = qs ++ [q] := by
      obtain ⟨qs, q, e⟩ := List.eq_nil_or_concat ps |>.resolve_left (by intro e; rw [e] at h0; simp at h0)
      exact ⟨qs, q, by simpa using e⟩
    simp
  rw [e]
  exact h2
theorem TRel.cell {w wr : World} {g cap : Nat} {ps : List (List UInt8)} (h : TRel w wr g cap ps) {i : Nat} {p : List UInt8} (hp : ps[i]? = some p) : wr.cell? ⟨g, i, none⟩ = some (.string ⟨p.toArray⟩) := by
  have hi := (List.getElem?_eq_some_iff.1 hp).1
  rw [World.ownsRow.cellAt h.own i (by omega), List.getElem?_map, hp]
  rfl
theorem one_back (w : World) (d : Nat) (hd : d ≤ 255) : (convert 52 9 (.slice (some ⟨w.heap.size, 0, none⟩) 1 1)).run Try.prog (w.alloc (.cells #[.int .u8 d] 5)) = .ok (.string ⟨#[UInt8.ofNat d]⟩) (w.alloc (.cells #[.int .u8 d] 5)) := by
  have := run_convert_bytes_back (P := Try.prog) (w.alloc (.cells #[.int .u8 d] 5)) 52 9 5 ⟨w.heap.size, 0, none⟩ 1 [UInt8.ofNat d] Try.underlying52 Try.underlying5 Try.underlying9 (fun j hj => by
    obtain rfl : j = 0 := by simp at hj; omega
    rw [add_eq, World.cell?_alloc_new]
    have e : ((UInt8.ofNat d).toNat : Int) = d := by rw [UInt8.toNat_ofNat']; omega
    show some (Value.int .u8 d) = some (Value.int .u8 ((UInt8.ofNat d).toNat : Int))
    rw [e])
  exact this
theorem TRel.cut {w wr w' : World} {g g1 cap c1 : Nat} {ps : List (List UInt8)} {c : UInt8} {o : Obj} (h : TRel w wr g cap ps) (hc : c.toNat = 47) (ho : w'.ownsRow w.heap.size 9 1 (.slice (some ⟨g1, 0, none⟩) (ps.length + 1) c1) (ps.length + 1) (ps.map pstr ++ [.string ⟨#[]⟩]))
    (hg : (wr.alloc o).grownBy w' (Value.slice (some ⟨g, 0, none⟩) ps.length cap).ownBlock) : TRel w w' g1 c1 (addC ps c) := by
  have hb := (h.own.lt g rfl).1
  refine ⟨?_, (h.gw.trans (Gw.alloc wr o)).grown hg fun k hk => ?_⟩
  · unfold addC
    rw [if_pos hc, List.length_append, List.map_append]
    exact ho
  · simp [Value.ownBlock] at hk
    omega
end Go.Proofs.Ytckoapfmfpmdgaa

namespace Go.Proofs.Ytckoapfmfpmdgaa
open Go.ChangeShapes Go.WideShapes Go.ChangeAt Go.RowKit Go.Joins
set_option linter.unusedVariables false

/-- A text of these bytes. -/
def bs (l : List UInt8) : ByteArray := ⟨l.toArray⟩
theorem bs_list (l : List UInt8) : (bs l).toList = l := ByteArray.toList_mk l
theorem bs_data (l : List UInt8) : (bs l).data.toList = l := rfl
theorem bs_self (s : ByteArray) : bs s.data.toList = s := by unfold bs; simp
theorem bs_size (l : List UInt8) : (bs l).size = l.length := by show l.toArray.size = l.length; simp
theorem bs_inj {a b : List UInt8} (h : bs a = bs b) : a = b := by have := congrArg (·.data.toList) h; simpa [bs_data] using this
end Go.Proofs.Ytckoapfmfpmdgaa

namespace Go.Proofs.Ytckoapfmfpmdgaa
open Go.ChangeShapes Go.WideShapes Go.ChangeAt Go.RowKit Go.Joins
set_option linter.unusedVariables false
set_option linter.unusedSimpArgs false

theorem flat_at {α : Type} {f : α → List Value} {s : Nat} (hs : ∀ a, (f a).length = s) : ∀ (l : List α) (i j : Nat) (a : α), l[i]? = some a → j < s → (l.flatMap f)[i * s + j]? = (f a)[j]?
  | [], i, j, a, h, _ => by simp at h
  | b :: l, 0, j, a, h, hj => by
    have : b = a := by simpa using h
    subst this
    rw [List.flatMap_cons, Nat.zero_mul, Nat.zero_add, List.getElem?_append_left (by rw [hs]; exact hj)]
  | b :: l, i + 1, j, a, h, hj => by
    have e : (i + 1) * s + j = s + (i * s + j) := by rw [Nat.add_mul]; omega
    rw [List.flatMap_cons, e, List.getElem?_append_right (by rw [hs]; omega), hs, Nat.add_sub_cancel_left]
    exact flat_at hs l i j a (by simpa using h) hj
def iC (i : Itm) : List Value := [.string (bs i.p), .bool i.d, .int .i64 i.n]
theorem iC_len (i : Itm) : (iC i).length = 3 := rfl
def iCs (l : List Itm) : List Value := l.flatMap iC
theorem iCs_at {l : List Itm} {k : Nat} {i : Itm} (h : l[k]? = some i) : (iCs l)[k * 3]? = some (.string (bs i.p)) ∧ (iCs l)[k * 3 + 1]? = some (.bool i.d) ∧ (iCs l)[k * 3 + 2]? = some (.int .i64 i.n) :=
  ⟨flat_at iC_len l k 0 i h (by decide), flat_at iC_len l k 1 i h (by decide), flat_at iC_len l k 2 i h (by decide)⟩
/-- A tree in memory: the block of its head, its row. -/
structure RT (B : Nat) (w : World) (g : Nat) (sl : Value) (s : St) : Prop where
  hd : Has w g 39 #[sl, .int .i64 s.nx]
  row : w.ownsRow B 95 3 sl s.l.length (iCs s.l)
  ne : sl.ownBlock ≠ some g
  hB : B ≤ g
  len : s.l.length ≤ 8
theorem RT.same {B : Nat} {w w' : World} {g : Nat} {sl : Value} {s : St} (h : RT B w g sl s) (k : ∀ b, (b = g ∨ sl.ownBlock = some b) → w'.heap[b]? = w.heap[b]?) : RT B w' g sl s := by
  refine ⟨h.hd.same (k g (.inl rfl)), ⟨h.row.1, ?_⟩, h.ne, h.hB, h.len⟩
  rcases h.row.2 with h0 | ⟨b, cap, cur, h0, h1, h2, h3⟩
  · exact .inl h0
  · exact .inr ⟨b, cap, cur, h0, h1, (k b (.inr (by rw [h0]; rfl))).trans h2, h3⟩
theorem RT.lt {B : Nat} {w : World} {g : Nat} {sl : Value} {s : St} (h : RT B w g sl s) : ∀ b, (b = g ∨ sl.ownBlock = some b) → b < w.heap.size := by
  rintro b (rfl | hb)
  · exact h.hd.lt
  · rcases h.row.2 with ⟨h0, _⟩ | ⟨g', cap, cur, h0, h1, h2, _⟩
    · rw [h0] at hb; cases hb
    · rw [h0] at hb; cases hb; exact lt_of_heap h2
theorem RT.on {B : Nat} {w w' : World} {g : Nat} {sl : Value} {s : St} (h : RT B w g sl s) (G : Gw w w') : RT B w' g sl s := h.same fun b hb => G.block b (h.lt b hb)
/-- The slice, and what it shows. -/
structure SlAt (w : World) (sl : Value) (l : List Itm) : Prop where
  form : (sl = .slice none 0 0 ∧ l = []) ∨ ∃ r cap, sl = .slice (some ⟨r, 0, none⟩) l.length cap ∧ l.length ≤ cap ∧ cap ≤ maxLen ∧ ∀ k i, l[k]? = some i → w.cell? ⟨r, k * 3, none⟩ = some (.string (bs i.p)) ∧ w.cell? ⟨r, k * 3 + 1, none⟩ = some (.bool i.d) ∧ w.cell? ⟨r, k * 3 + 2, none⟩ = some (.int .i64 i.n)
theorem RT.sl {B : Nat} {w : World} {g : Nat} {sl : Value} {s : St} (h : RT B w g sl s) : SlAt w sl s.l := by
  rcases h.row.2 with ⟨h0, h1⟩ | ⟨r, cap, cur, h0, h1, h2, h3, h4, h5, h6⟩
  · exact ⟨.inl ⟨h0, List.length_eq_zero_iff.1 h1⟩⟩
  · refine ⟨.inr ⟨r, cap, h0, h3, h4, fun k i hi => ?_⟩⟩
    have hk := (List.getElem?_eq_some_iff.1 hi).1
    have e : ∀ j v, (iCs s.l)[j]? = some v → w.cell? ⟨r, j, none⟩ = some v := fun j v hj => by
      rw [← h6, List.getElem?_take] at hj
      rw [cell_of_row w r j cur _ _ h2]
      split at hj
      · simpa using hj
      · cases hj
    obtain ⟨a, b, c⟩ := iCs_at hi
    exact ⟨e _ _ a, e _ _ b, e _ _ c⟩
end Go.Proofs.Ytckoapfmfpmdgaa

namespace Go.Proofs.Ytckoapfmfpmdgaa
open Go.ChangeShapes Go.WideShapes Go.ChangeAt Go.RowKit Go.Joins
set_option linter.unusedVariables false
set_option linter.unusedSimpArgs false

/-- What is at g and in the row has changed; nothing else. -/
structure Ch (g : Nat) (sl : Value) (W W' : World) : Prop where
  os : W'.os = W.os
  output : W'.output = W.output
  size : W.heap.size ≤ W'.heap.size
  block : ∀ k, k < W.heap.size → k ≠ g → sl.ownBlock ≠ some k → W'.heap[k]? = W.heap[k]?
/-- How a tree is, behind what was done to it. -/
structure RTo (B : Nat) (W : World) (g : Nat) (sl : Value) (s' : St) (W' : World) : Prop where
  ch : Ch g sl W W'
  ex : ∃ sl', RT B W' g sl' s' ∧ ∀ b, sl'.ownBlock = some b → sl.ownBlock = some b ∨ W.heap.size ≤ b
theorem RTo.of_gw {B : Nat} {W W' : World} {g : Nat} {sl : Value} {s : St} (h : RT B W g sl s) (G : Gw W W') : RTo B W g sl s W' := ⟨⟨G.os, G.output, G.size, fun k hk _ _ => G.block k hk⟩, _, h.on G, fun _ hb => .inl hb⟩
theorem RT.cells {B : Nat} {w : World} {g r cap : Nat} {s : St} (h : RT B w g (.slice (some ⟨r, 0, none⟩) s.l.length cap) s) {j : Nat} {v : Value} (hj : (iCs s.l)[j]? = some v) : w.cell? ⟨r, j, none⟩ = some v := by
  rcases h.row.2 with ⟨h0, h1⟩ | ⟨r', cap', cur, h0, h1, h2, h3, h4, h5, h6⟩
  · cases h0
  · cases h0
    rw [← h6, List.getElem?_take] at hj
    rw [cell_of_row w r j cur _ _ h2]
    split at hj
    · simpa using hj
    · cases hj
end Go.Proofs.Ytckoapfmfpmdgaa

namespace Go.Proofs.Ytckoapfmfpmdgaa
open Go.ChangeShapes Go.WideShapes Go.ChangeAt Go.RowKit Go.Joins
set_option linter.unusedVariables false
set_option linter.unusedSimpArgs false

/-- What Find answers. -/
def fV (r : Int × Bool × Int) : Value := .tuple #[.int .i64 r.1, .bool r.2.1, .int .u16 r.2.2]
end Go.Proofs.Ytckoapfmfpmdgaa

namespace Go.Proofs.Ytckoapfmfpmdgaa
open Go.ChangeShapes Go.WideShapes Go.ChangeAt Go.RowKit Go.Joins
set_option linter.unusedVariables false
set_option linter.unusedSimpArgs false

end Go.Proofs.Ytckoapfmfpmdgaa

namespace Go.Proofs.Ytckoapfmfpmdgaa
open Go.ChangeShapes Go.WideShapes Go.ChangeAt Go.RowKit Go.Joins
set_option linter.unusedVariables false
set_option linter.unusedSimpArgs false

/-- What two numbers are answered. -/
def mV (r : Int × Int) : Value := .tuple #[.int .i64 r.1, .int .u16 r.2]
end Go.Proofs.Ytckoapfmfpmdgaa

namespace Go.Proofs.Ytckoapfmfpmdgaa
open Go.ChangeShapes Go.WideShapes Go.ChangeAt Go.RowKit Go.Joins
set_option linter.unusedVariables false
set_option linter.unusedSimpArgs false

theorem find_zero {l : List Itm} {p : List UInt8} (h : (findT l p).2.2 = 0) : nameB p = true ∧ abv l p = 0 ∧ ∃ i, look l p = some i ∧ findT l p = (i.n, i.d, 0) := by
  unfold findT at h ⊢
  by_cases hb : nameB p = true
  · rw [if_pos hb] at h ⊢
    by_cases h0 : abv l p = 0
    · rw [if_pos h0] at h ⊢
      cases hk : look l p with
      | none => rw [hk] at h; simp at h
      | some i => exact ⟨hb, h0, i, rfl, rfl⟩
    · rw [if_neg h0] at h; exact absurd h h0
  · rw [if_neg hb] at h; simp at h
end Go.Proofs.Ytckoapfmfpmdgaa

namespace Go.Proofs.Ytckoapfmfpmdgaa
open Go.ChangeShapes Go.WideShapes Go.ChangeAt Go.RowKit Go.Joins
set_option linter.unusedVariables false
set_option linter.unusedSimpArgs false

end Go.Proofs.Ytckoapfmfpmdgaa

namespace Go.Proofs.Ytckoapfmfpmdgaa
open Go.ChangeShapes Go.WideShapes Go.ChangeAt Go.RowKit Go.Joins
set_option linter.unusedVariables false
set_option linter.unusedSimpArgs false

/-- Entries, as they lie. -/
def EntAt (w : World) (v : Value) (es : List (List UInt8 × Bool)) : Prop := ∃ A cap, v = .slice A es.length cap ∧
  ∀ (k : Nat) e, es[k]? = some e → ∃ ge off, A = some ⟨ge, off, none⟩ ∧ w.cell? ⟨ge, off + k * 3, none⟩ = some (.string (bs e.1)) ∧ w.cell? ⟨ge, off + k * 3 + 1, none⟩ = some (.bool e.2) ∧ ∃ c : Int, w.cell? ⟨ge, off + k * 3 + 2, none⟩ = some (.int .i64 c)
theorem EntAt.nil (w : World) : EntAt w (.slice none 0 0) [] := ⟨none, 0, rfl, fun k e h => (by simp at h)⟩
theorem EntAt.on {w w' : World} {v : Value} {es : List (List UInt8 × Bool)} (h : EntAt w v es) (G : Gw w w') : EntAt w' v es := by
  obtain ⟨A, cap, h1, h2⟩ := h
  refine ⟨A, cap, h1, fun k e he => ?_⟩
  obtain ⟨ge, off, a, b, c⟩ := h2 k e he
  exact ⟨ge, off, a, G.cell b, G.cell c.1, c.2.imp fun _ h => G.cell h⟩
end Go.Proofs.Ytckoapfmfpmdgaa

namespace Go.Proofs.Ytckoapfmfpmdgaa
open Go.ChangeShapes Go.WideShapes Go.ChangeAt Go.RowKit Go.Joins
set_option linter.unusedVariables false
set_option linter.unusedSimpArgs false

/-- Where what is of a file system lies. -/
structure Gd where
  g : Nat
  sl : Value
  dv : Value
  ov : Value
  ds : List Value
  ps : List Nat
def hC (g : Nat) (dv ov : Value) (fd : List Int) : Array Value := (Value.pointer (some ⟨g, 0, none⟩) :: dv :: ov :: fd.map (Value.int .i64)).toArray
theorem hC_setfd (g : Nat) (dv ov : Value) (fd : List Int) (i : Nat) (k : Int) : (hC g dv ov fd).setIfInBounds (3 + i) (.int .i64 k) = hC g dv ov (fd.set i k) := by
  unfold hC
  rw [show 3 + i = i + 1 + 1 + 1 by omega]
  simp [List.map_set]
theorem hC_setdv (g : Nat) (dv ov x : Value) (fd : List Int) : (hC g dv ov fd).setIfInBounds 1 x = hC g x ov fd := by simp [hC]
theorem hC_setov (g : Nat) (dv ov x : Value) (fd : List Int) : (hC g dv ov fd).setIfInBounds 2 x = hC g dv x fd := by simp [hC]
/-- A slice of bytes that nobody writes. -/
def BtAt (bz : Nat) (tau : Nat → Nat) (w : World) (x : Value) (l : List UInt8) : Prop := ∃ A cap, x = .slice A l.length cap ∧ l.length ≤ cap ∧ cap ≤ 9223372036854775807 ∧
  ∀ (j : Nat) c, l[j]? = some c → ∃ b off, A = some ⟨b, off, none⟩ ∧ (b < bz ∨ tau b = 5) ∧ w.cell? ⟨b, off + j, none⟩ = some (.int .u8 (c.toNat : Int))
def opC (x : Nat × Nat) : Array Value := #[.int .i64 (x.1 : Int), .int .i64 (x.2 : Int)]
def ptV (b : Nat) : Value := .pointer (some ⟨b, 0, none⟩)
/-- Parts: 1 the head, 2 the tree, 3 the row of bytes, 4 the row of open files, 5 bytes, 6 + i the i-th open file; 0: not its own. -/
structure FR (bz : Nat) (tau : Nat → Nat) (G : Gd) (w : World) (h : Nat) (s : Fs) : Prop where
  hd : Has w h 118 (hC G.g G.dv G.ov s.fd)
  tr : RT bz w G.g G.sl s.t
  dr : w.ownsRow bz 52 1 G.dv s.d.length G.ds
  or_ : w.ownsRow bz 134 1 G.ov s.o.length (G.ps.map ptV)
  oc : ∀ (i b : Nat) x, G.ps[i]? = some b → s.o[i]? = some x → Has w b 136 (opC x)
  by_ : ∀ (i : Nat) x l, G.ds[i]? = some x → s.d[i]? = some l → BtAt bz tau w x l
  th : tau h = 1
  tg : tau G.g = 2
  ts : ∀ b, G.sl.ownBlock = some b → tau b = 2
  td : ∀ b, G.dv.ownBlock = some b → tau b = 3
  tov : ∀ b, G.ov.ownBlock = some b → tau b = 4
  tp : ∀ (i b : Nat), G.ps[i]? = some b → tau b = 6 + i
  lt : ∀ b, tau b ≠ 0 → bz ≤ b ∧ b < w.heap.size
  hz : bz ≤ w.heap.size
  ok : FOm s
/-- Nothing but blocks of its own has changed. -/
structure Fc (tau : Nat → Nat) (w w' : World) : Prop where
  os : w'.os = w.os
  output : w'.output = w.output
  size : w.heap.size ≤ w'.heap.size
  block : ∀ k, k < w.heap.size → tau k = 0 → w'.heap[k]? = w.heap[k]?
/-- How a file system is, behind what was done to it. -/
structure FTo (bz : Nat) (tau : Nat → Nat) (w : World) (h : Nat) (s' : Fs) (w' : World) : Prop where
  ch : Fc tau w w'
  ex : ∃ tau' G', FR bz tau' G' w' h s' ∧ ∀ k, k < w.heap.size → tau' k ≠ 0 → tau k ≠ 0
theorem own_same {w w' : World} {base : Nat} {e : TypeId} {size n : Nat} {v : Value} {xs : List Value} (h : w.ownsRow base e size v n xs) (k : ∀ b, v.ownBlock = some b → w'.heap[b]? = w.heap[b]?) : w'.ownsRow base e size v n xs := by
  refine ⟨h.1, ?_⟩
  rcases h.2 with h0 | ⟨b, cap, cur, h0, h1, h2, h3⟩
  · exact .inl h0
  · exact .inr ⟨b, cap, cur, h0, h1, (k b (by rw [h0]; rfl)).trans h2, h3⟩
section
variable {bz : Nat} {tau : Nat → Nat} {G : Gd} {w : World} {h : Nat} {s : Fs}
theorem FR.len (H : FR bz tau G w h s) : G.ds.length = s.d.length ∧ G.ps.length = s.o.length := by
  have h1 := H.dr.1
  have h2 := H.or_.1
  rw [Nat.mul_one] at h1 h2
  exact ⟨h1, by simpa using h2⟩
theorem BtAt.on {x : Value} {l : List UInt8} (H : BtAt bz tau w x l) {w' : World} {tau' : Nat → Nat} (k : ∀ b, b < w.heap.size → (b < bz ∨ tau b = 5) → w'.heap[b]? = w.heap[b]? ∧ (b < bz ∨ tau' b = 5)) : BtAt bz tau' w' x l := by
  obtain ⟨A, cap, h1, h2, h3, h4⟩ := H
  refine ⟨A, cap, h1, h2, h3, fun j c hj => ?_⟩
  obtain ⟨b, off, e, ht, hc⟩ := h4 j c hj
  obtain ⟨a1, a2⟩ := k b (lt_cell hc) ht
  exact ⟨b, off, e, a2, (World.cell?_of_block (a := ⟨b, off + j, none⟩) a1).trans hc⟩
theorem FR.same (H : FR bz tau G w h s) {w' : World} (hsz : w.heap.size ≤ w'.heap.size) (k : ∀ b, b < w.heap.size → (b < bz ∨ tau b ≠ 0) → w'.heap[b]? = w.heap[b]?) : FR bz tau G w' h s := by
  have q : ∀ b n, tau b = n + 1 → w'.heap[b]? = w.heap[b]? := fun b n e => k b (H.lt b (by omega)).2 (.inr (by omega))
  refine ⟨H.hd.same (q h 0 H.th), H.tr.same (fun b hb => ?_), own_same H.dr (fun b hb => q b 2 (H.td b hb)), own_same H.or_ (fun b hb => q b 3 (H.tov b hb)), fun i b x hb hx => (H.oc i b x hb hx).same (q b (5 + i) (by rw [H.tp i b hb]; omega)),
    fun i x l hx hl => (H.by_ i x l hx hl).on fun b hb ht => ⟨k b hb (ht.imp id (fun e => by omega)), ht⟩, H.th, H.tg, H.ts, H.td, H.tov, H.tp, fun b hb => ⟨(H.lt b hb).1, Nat.lt_of_lt_of_le (H.lt b hb).2 hsz⟩, Nat.le_trans H.hz hsz, H.ok⟩
  rcases hb with rfl | hb
  · exact q _ 1 H.tg
  · exact q b 1 (H.ts b hb)
theorem FR.on (H : FR bz tau G w h s) {w' : World} (K : Gw w w') : FR bz tau G w' h s := H.same K.size (fun b hb _ => K.block b hb)
theorem FTo.of_gw (H : FR bz tau G w h s) {w' : World} (K : Gw w w') : FTo bz tau w h s w' := ⟨⟨K.os, K.output, K.size, fun k hk _ => K.block k hk⟩, tau, G, H.on K, fun _ _ hk => hk⟩
/-- The rows, as slices. -/
theorem own_sl {e : TypeId} {v : Value} {n : Nat} {xs : List Value} {B : Nat} (H : w.ownsRow B e 1 v n xs) : (v = .slice none 0 0 ∧ n = 0) ∨ ∃ r cap, v = .slice (some ⟨r, 0, none⟩) n cap ∧ n ≤ cap ∧ cap ≤ 9223372036854775807 ∧ (∀ (i : Nat) x, xs[i]? = some x → w.cell? ⟨r, i, none⟩ = some x ∧ w.frozen? ⟨r, i, none⟩ = false) := by
  rcases H.2 with h0 | ⟨r, cap, cur, h0, h1, h2, h3, h4, h5, h6⟩
  · exact .inl h0
  · refine .inr ⟨r, cap, h0, h3, h4, fun i x hx => ⟨?_, ?_⟩⟩
    · rw [← h6, List.getElem?_take] at hx
      rw [cell_of_row w r i cur _ _ h2]
      split at hx
      · simpa using hx
      · cases hx
    · unfold World.frozen?; rw [h2]; simp
end
end Go.Proofs.Ytckoapfmfpmdgaa

namespace Go.Proofs.Ytckoapfmfpmdgaa
open Go.ChangeShapes Go.WideShapes Go.ChangeAt Go.RowKit Go.Joins
set_option linter.unusedVariables false
set_option linter.unusedSimpArgs false

section
variable {bz : Nat} {tau : Nat → Nat} {G : Gd} {w : World} {h : Nat} {s : Fs}
theorem FR.pt (H : FR bz tau G w h s) {i : Nat} (hi : i < s.o.length) : ∃ b, G.ps[i]? = some b := ⟨_, List.getElem?_eq_getElem (by rw [H.len.2]; exact hi)⟩
end
end Go.Proofs.Ytckoapfmfpmdgaa

namespace Go.Proofs.Ytckoapfmfpmdgaa
open Go.ChangeShapes Go.WideShapes Go.ChangeAt Go.RowKit Go.Joins
set_option linter.unusedVariables false
set_option linter.unusedSimpArgs false

section
variable {bz : Nat} {tau : Nat → Nat} {G : Gd} {w : World} {h : Nat} {s : Fs}
theorem FTo.gw {w1 w' : World} {s' : Fs} (K : Gw w w1) (H : FTo bz tau w1 h s' w') : FTo bz tau w h s' w' := by
  obtain ⟨tau', G', h1, h2⟩ := H.ex
  exact ⟨⟨H.ch.os.trans K.os, H.ch.output.trans K.output, Nat.le_trans K.size H.ch.size, fun k hk ht => (H.ch.block k (Nat.lt_of_lt_of_le hk K.size) ht).trans (K.block k hk)⟩, tau', G', h1, fun k hk ht => h2 k (Nat.lt_of_lt_of_le hk K.size) ht⟩
end
end Go.Proofs.Ytckoapfmfpmdgaa

namespace Go.Proofs.Ytckoapfmfpmdgaa
open Go.ChangeShapes Go.WideShapes Go.ChangeAt Go.RowKit Go.Joins
set_option linter.unusedVariables false
set_option linter.unusedSimpArgs false

section
variable {bz : Nat} {tau : Nat → Nat} {G : Gd} {w : World} {h : Nat} {s : Fs}
theorem FR.row (H : FR bz tau G w h s) {f : Nat} (hf : f < s.d.length) : ∃ r cap x, w.cell? ⟨h, 1, none⟩ = some (.slice (some ⟨r, 0, none⟩) s.d.length cap) ∧ s.d.length ≤ cap ∧ cap ≤ 9223372036854775807 ∧ G.ds[f]? = some x ∧ w.cell? ⟨r, f, none⟩ = some x ∧ w.frozen? ⟨r, f, none⟩ = false ∧ G.dv = .slice (some ⟨r, 0, none⟩) s.d.length cap := by
  have c1 : w.cell? ⟨h, 1, none⟩ = some G.dv := H.hd.cell 1
  obtain ⟨x, hx⟩ : ∃ x, G.ds[f]? = some x := ⟨_, List.getElem?_eq_getElem (by rw [H.len.1]; exact hf)⟩
  rcases own_sl H.dr with ⟨_, h2⟩ | ⟨r, cap, h2, h3, h5, h6⟩
  · omega
  · exact ⟨r, cap, x, by rw [c1, h2], h3, h5, hx, (h6 f x hx).1, (h6 f x hx).2, h2⟩
end
end Go.Proofs.Ytckoapfmfpmdgaa

namespace Go.Proofs.Ytckoapfmfpmdgaa
open Go.ChangeShapes Go.WideShapes Go.ChangeAt Go.RowKit Go.Joins
set_option linter.unusedVariables false
set_option linter.unusedSimpArgs false

theorem own_set1 {w : World} {B : Nat} {e : TypeId} {n r cap i : Nat} {xs : List Value} {u : Value} (h : w.ownsRow B e 1 (.slice (some ⟨r, 0, none⟩) n cap) n xs) (hi : i < n) : (w.setCell ⟨r, i, none⟩ u).ownsRow B e 1 (.slice (some ⟨r, 0, none⟩) n cap) n (xs.set i u) := by
  refine ⟨by rw [List.length_set]; exact h.1, ?_⟩
  rcases h.2 with ⟨h0, _⟩ | ⟨b, cap', cur, h0, h1, h2, h3, h4, h5, h6⟩
  · cases h0
  · cases h0
    refine .inr ⟨r, cap, cur.setIfInBounds i u, rfl, h1, heap_setCell_same w r i cur e u h2, h3, h4, by simp [h5], ?_⟩
    rw [Array.toList_setIfInBounds, List.take_set, h6]
section
variable {bz : Nat} {tau : Nat → Nat} {G : Gd} {w : World} {h : Nat} {s : Fs}
theorem FR.old (H : FR bz tau G w h s) {nb : Nat} (hb : w.heap.size ≤ nb) : tau nb = 0 := by
  cases ht : tau nb with
  | zero => rfl
  | succ n => have := (H.lt nb (by rw [ht]; omega)).2; omega
theorem FTo.step {tau' : Nat → Nat} {w2 w3 : World} {s3 : Fs} (c : Fc tau w w2) (n : ∀ k, k < w.heap.size → tau' k ≠ 0 → tau k ≠ 0) (H : FTo bz tau' w2 h s3 w3) : FTo bz tau w h s3 w3 := by
  obtain ⟨t3, G3, k1, k2⟩ := H.ex
  have z : ∀ k, k < w.heap.size → tau k = 0 → tau' k = 0 := fun k hk ht => by
    cases e : tau' k with
    | zero => rfl
    | succ m => exact absurd ht (n k hk (by rw [e]; omega))
  exact ⟨⟨H.ch.os.trans c.os, H.ch.output.trans c.output, Nat.le_trans c.size H.ch.size, fun k hk ht => (H.ch.block k (Nat.lt_of_lt_of_le hk c.size) (z k hk ht)).trans (c.block k hk ht)⟩, t3, G3, k1, fun k hk ht => n k hk (k2 k (Nat.lt_of_lt_of_le hk c.size) ht)⟩
end
end Go.Proofs.Ytckoapfmfpmdgaa
