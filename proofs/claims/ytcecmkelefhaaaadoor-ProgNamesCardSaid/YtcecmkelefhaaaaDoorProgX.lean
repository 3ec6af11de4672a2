/-
  Bytes handed in, with what a nil slice is; bytes that lie anywhere, appended to a row of the call's own.
-/
import Derived.Test.YtcecmkelefhaaaaDoorProgV
import Derived.Laws.AppendOwnNone
namespace Go.Proofs.YtcecmkelefhaaaaDoor
open Go.ChangeShapes Go.WideShapes Go.ChangeAt Go.RowKit Go.Joins
set_option linter.unusedVariables false

/-- A value that is a slice of bytes: a nil slice has no room. -/
def BytesNil (W : World) (v : Value) : Prop := ∃ (A : Option Addr) (l : List UInt8) (cap : Nat), v = .slice A l.length cap ∧ l.length ≤ cap ∧ cap ≤ 9223372036854775807 ∧ ByAt W A l ∧ (A = none → cap = 0)
section
variable {H : Type} {enc : TypeId × Value → H} {W : World}
theorem bytes_open2 {base : Nat} {v : Value} {d : DataW H} {p : List MemPlace}
    (hok : Value.okWide Tryd.prog W .any base 28 v) (h : DataW.Trod enc Tryd.prog W 0 (fun _ => true) true 28 v d p) : BytesNil W v := by
  obtain ⟨a0, len0, cap0, rfl⟩ := okWide_slice Tryd.underlying28 hok
  obtain ⟨fuel, hf⟩ := h
  rcases open_ints Tryd.underlying28 Tryd.underlying5 cellsByte hf with ⟨h0, _⟩ | ⟨a, len, cap, zs, h1, _, hle, hm, hzl, _, hcell, hwf⟩
  · simp only [Value.cells, List.cons.injEq, and_true] at h0
    rw [h0]
    exact ⟨none, [], 0, rfl, Nat.le_refl _, Nat.zero_le _, fun i z hz => (by rw [List.getElem?_nil] at hz; cases hz), fun _ => rfl⟩
  · simp only [Value.cells, List.cons.injEq, and_true] at h1
    rw [h1]
    rw [if_pos rfl] at hzl
    unfold maxLen at hm
    have hlen : (zs.take len).length = len := by rw [List.length_take]; omega
    refine ⟨some a, (zs.take len).map fun z => UInt8.ofNat z.toNat, cap, by rw [List.length_map, hlen], by rw [List.length_map, hlen]; exact hle, by omega, fun i y hy => ?_, fun h => by cases h⟩
    rw [List.getElem?_map] at hy
    cases hz : (zs.take len)[i]? with
    | none => rw [hz] at hy; cases hy
    | some z =>
      rw [hz] at hy
      simp only [Option.map_some, Option.some.injEq] at hy
      have hil : i < len := by have := (List.getElem?_eq_some_iff.1 hz).1; omega
      have hz1 := hz
      rw [List.getElem?_take_of_lt hil] at hz
      have k0 : W.cell? (a.add i) = some (.int .u8 z) := by rw [hcell i (by omega), List.getD_eq_getElem?_getD, hz]; rfl
      obtain ⟨z0, z1⟩ := bounds_u8 (hwf z (List.mem_of_mem_take (List.mem_of_getElem? hz1)))
      have ez : z = (y.toNat : Int) := by
        rw [← hy, UInt8.toNat_ofNat']
        omega
      obtain ⟨g, off, spot⟩ := a
      cases spot with
      | some s =>
        exfalso
        have h2 := hcell 0 (by omega)
        exact spotted h2
      | none =>
        rw [add_eq] at k0
        rw [ez] at k0
        exact ⟨g, off, rfl, World.block_lt_of_cell? W _ k0, k0⟩
end
/-- A row of the call's own gets bytes that lie somewhere. -/
theorem app_by {w : World} {ops : Array Oper} {rest : List Oper} {o : Oper} {a : Act} {Q : Exit → Act → World → Prop} (hgd : o.guard = none) (s x : Operand)
    (ho : o.op = .call { callee := .builtin .append, args := #[s, x], argTypes := #[28, 28] })
    (wo wv : World) (v : Value) (l : List UInt8) (hs : a.eval s = v) (R : BRel wo w v l) (X : Option Addr) (m : List UInt8) (c : Nat) (hx : a.eval x = .slice X m.length c) (hnil : X = none → c = 0) (hb : ByAt wv X m) (hg : Gw wv w)
    (h63 : l.length + m.length ≤ 100000)
    (h : ∀ v' w', BRel wo w' v' (l ++ m) → Gw wv w' → wpList Tryd.prog ops Q rest (a.put o.dst v') w') (hwv : wv.heap.size ≤ wo.heap.size) : wpList Tryd.prog ops Q (o :: rest) a w := by
  obtain ⟨i0, hi1, hi2, hi3, hi4⟩ := info_u8
  cases X with
  | none =>
    have hm : m = [] := by
      cases m with
      | nil => rfl
      | cons z m =>
        obtain ⟨b, off, e, _⟩ := hb 0 z rfl
        cases e
    subst hm
    obtain rfl := hnil rfl
    exact wpList_append_own_none hgd s x _ ho wo.heap.size 5 i0 1 Tryd.underlying28 hi1 v _ _ hs R.own hx (h v w (by rw [List.append_nil]; exact R) hg)
  | some ad =>
    refine wpList_append_own w hgd s x _ ho wo.heap.size 5 i0 (.int .u8 0) 1 1 Tryd.underlying28 hi1 hi2 hi3 hi4 rfl (by omega) v l.length (u8s l) hs R.own ad m.length c (u8s m) hx (by simp [u8s]) (fun j u hu => ?_) (fun u hu => ?_) (by unfold maxLen; omega) (by omega) R.gw.size (fun v' w' h2 h3 _ => ?_)
    · have hj := (List.getElem?_eq_some_iff.1 hu).1
      simp only [u8s, List.length_map] at hj
      obtain ⟨b, off, e, hbw, hc⟩ := hb j m[j] (List.getElem?_eq_getElem hj)
      injection e with e
      subst e
      rw [add_eq, hg.cell hc, ← hu]
      simp [u8s, hj]
    · simp only [u8s, List.mem_map] at hu
      obtain ⟨z, _, rfl⟩ := hu
      rfl
    · refine h v' w' ⟨by rw [List.length_append, u8s_app]; exact h2, R.gw.grown h3 fun k hk => ?_⟩ (hg.grown h3 fun k hk => ?_)
      · exact (R.own.lt k hk).1
      · exact Nat.le_trans hwv (R.own.lt k hk).1
end Go.Proofs.YtcecmkelefhaaaaDoor
