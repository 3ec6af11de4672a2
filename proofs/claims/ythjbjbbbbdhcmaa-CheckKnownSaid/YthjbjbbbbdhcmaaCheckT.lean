/-
  Heights round till nothing changes, as rows of masks: plain data.
-/
import Derived.Test.YthjbjbbbbdhcmaaCheckL
namespace Go.Proofs.Ythjbjbbbbdhcmaa
open Go.ChangeShapes Go.WideShapes Go.ChangeAt Go.RowKit Go.Joins
set_option linter.unusedVariables false

/-- A row of masks as cells. -/
def msks (n : Nat) (r : Nat → Nat) : Array Value := ((List.range n).map fun j => Value.int .u32 (r j : Nat)).toArray
theorem msks_get {n j : Nat} (r : Nat → Nat) (hj : j < n) : (msks n r)[j]? = some (.int .u32 (r j : Nat)) := by
  unfold msks
  rw [List.getElem?_toArray, List.getElem?_map, List.getElem?_range hj]
  rfl
theorem msks_size (n : Nat) (r : Nat → Nat) : (msks n r).size = n := by simp [msks]
theorem msks_set {n k : Nat} (r : Nat → Nat) (c : Nat) (hk : k < n) : (msks n r).setIfInBounds k (.int .u32 (c : Nat)) = msks n (seti r k c) := by
  refine arr_ext (n := n) (by rw [Array.size_setIfInBounds, msks_size]) (msks_size _ _) fun j hj => ?_
  rw [Array.getElem?_setIfInBounds, msks_size, msks_get _ hj, msks_get _ hj]
  by_cases e : k = j
  · subst e
    rw [if_pos rfl, if_pos hk, seti_self]
  · rw [if_neg e, seti_ne (fun k => e k.symm)]
theorem made_msks (n : Nat) : madeCells #[Value.int .u32 0] n = msks n (fun _ => 0) := by
  apply Array.toList_inj.1
  rw [toList_madeCells_one]
  unfold msks
  simp
  rw [List.map_const']
  simp
/-- The row of masks in memory. -/
def MsAt (w : World) (g n : Nat) (r : Nat → Nat) : Prop := Has w g 55 (msks n r)
section
variable {w w' : World} {g n : Nat} {r : Nat → Nat}
theorem MsAt.cell (h : MsAt w g n r) {j : Nat} (hj : j < n) : w.cell? ⟨g, j, none⟩ = some (.int .u32 (r j : Nat)) := (Has.cell h j).trans (msks_get r hj)
theorem MsAt.free (h : MsAt w g n r) (j : Nat) : w.frozen? ⟨g, j, none⟩ = false := Has.free h j
theorem MsAt.on (h : MsAt w g n r) (k : Gw w w') : MsAt w' g n r := Has.on h k
theorem MsAt.put (h : MsAt w g n r) {k : Nat} (hk : k < n) (c : Nat) : MsAt (w.setCell ⟨g, k, none⟩ (.int .u32 (c : Nat))) g n (seti r k c) := by
  have := Has.put h k (.int .u32 (c : Nat))
  rw [msks_set r c hk] at this
  exact this
end
/-- One way on of one instruction is seen to. -/
def DnAt (L : List (Int × Int)) (r : Nat → Nat) (i q : Nat) : Prop := ∀ x t, L[i]? = some x → (nxt x i)[q]? = some t → r t.toNat ||| bh (r i) (tkx x).toNat (gvx x).toNat = r t.toNat
/-- A sweep that began with r0 has come to way j of instruction k. -/
structure Rx (L : List (Int × Int)) (n : Nat) (r0 r : Nat → Nat) (cb : Bool) (k j : Nat) : Prop where
  lt : ∀ i, r i < 131072
  s : Sound L (mks r)
  no : cb = false → r = r0 ∧ (∀ i q, i < k → DnAt L r i q) ∧ ∀ q, q < j → DnAt L r k q
  yes : cb = true → left (mks r) n < left (mks r0) n
theorem nxt_reach {L : List (Int × Int)} {x : Int × Int} {k h q : Nat} {t : Int} (hx : L[k]? = some x) (r : Reach L k h) (s : stepOk x h) (ht : (nxt x k)[q]? = some t) : Reach L t.toNat (toH x h) := by
  have hm := List.mem_of_getElem? ht
  unfold nxt at hm
  rcases List.mem_append.1 hm with hm | hm
  · split at hm
    · rename_i hj
      rw [List.mem_singleton] at hm
      subst hm
      exact .jump r hx s (by unfold jumpsB at hj; simpa using hj)
    · cases hm
  · split at hm
    · cases hm
    · rename_i he
      rw [List.mem_singleton] at hm
      subst hm
      have e : ((k : Int) + 1).toNat = k + 1 := by omega
      rw [e]
      have he' : ¬ (x.1 = 22 ∨ x.1 = 26) := by unfold endsB at he; simpa using he
      exact .next r hx s (fun q => he' (.inl q)) (fun q => he' (.inr q))
/-- What an instruction's ways on are, where it is well by itself. -/
theorem nxt_lt {L : List (Int × Int)} {m : Nat} {x : Int × Int} {k q : Nat} {t : Int} (hx : L[k]? = some x) (hf : fault L.length m k x = 0) (ht : (nxt x k)[q]? = some t) : 0 ≤ t ∧ t.toNat < L.length := by
  obtain ⟨h1, h2, h3⟩ := fault_zero hf
  have hb := okI_bd h1
  have hk := (List.getElem?_eq_some_iff.1 hx).1
  have hm := List.mem_of_getElem? ht
  unfold nxt at hm
  rcases List.mem_append.1 hm with hm | hm
  · split at hm
    · rename_i hj
      rw [List.mem_singleton] at hm
      subst hm
      have := h2 (by unfold jumpsB at hj; simpa using hj)
      exact ⟨hb.2.2.1, by omega⟩
    · cases hm
  · split at hm
    · cases hm
    · rename_i he
      rw [List.mem_singleton] at hm
      subst hm
      have he' : ¬ (x.1 = 22 ∨ x.1 = 26) := by unfold endsB at he; simpa using he
      have := h3 (fun q => he' (.inl q)) (fun q => he' (.inr q))
      exact ⟨by omega, by omega⟩
theorem tkg {x : Int × Int} (h : okI x = true) : (tkx x = ((tkx x).toNat : Nat) ∧ (tkx x).toNat ≤ 3) ∧ gvx x = ((gvx x).toNat : Nat) ∧ (gvx x).toNat ≤ 2 := by
  obtain ⟨p1, p2, _, _⟩ := okI_bd h
  have := tk_gv (o := x.1.toNat) (by omega)
  unfold tkx gvx
  omega
section
variable {L : List (Int × Int)} {n : Nat} {r0 r : Nat → Nat} {cb : Bool} {k j : Nat}
theorem Rx.start (hl : ∀ i, r i < 131072) (s : Sound L (mks r)) : Rx L n r r false 0 0 := ⟨hl, s, fun _ => ⟨rfl, fun i q hi => by omega, fun q hq => by omega⟩, fun h => by cases h⟩
theorem Rx.row {x : Int × Int} (h : Rx L n r0 r cb k j) (hx : L[k]? = some x) (hj : (nxt x k).length ≤ j) : Rx L n r0 r cb (k + 1) 0 :=
  ⟨h.lt, h.s, fun e => ⟨(h.no e).1, fun i q hi => by
    by_cases e2 : i = k
    · subst e2
      by_cases hq : q < j
      · exact (h.no e).2.2 q hq
      · intro y t hy ht
        rw [hx] at hy
        injection hy with hy
        subst hy
        have := (List.getElem?_eq_some_iff.1 ht).1
        omega
    · exact (h.no e).2.1 i q (by omega), fun q hq => by omega⟩, h.yes⟩
theorem Rx.same {x : Int × Int} {t : Int} (h : Rx L n r0 r cb k j) (hx : L[k]? = some x) (ht : (nxt x k)[j]? = some t) (he : r t.toNat ||| bh (r k) (tkx x).toNat (gvx x).toNat = r t.toNat) : Rx L n r0 r cb k (j + 1) :=
  ⟨h.lt, h.s, fun e => ⟨(h.no e).1, (h.no e).2.1, fun q hq => by
    by_cases e2 : q = j
    · subst e2
      intro y u hy hu
      rw [hx] at hy
      injection hy with hy
      subst hy
      rw [ht] at hu
      injection hu with hu
      subst hu
      exact he
    · exact (h.no e).2.2 q (by omega)⟩, h.yes⟩
theorem Rx.set {x : Int × Int} {t : Int} (h : Rx L n r0 r cb k j) (hx : L[k]? = some x) (hok : okI x = true) (ht : (nxt x k)[j]? = some t) (hn : t.toNat < n) (he : r t.toNat ||| bh (r k) (tkx x).toNat (gvx x).toNat ≠ r t.toNat) (k' j' : Nat) :
    Rx L n r0 (seti r t.toNat (r t.toNat ||| bh (r k) (tkx x).toNat (gvx x).toNat)) true k' j' := by
  obtain ⟨⟨a1, a2⟩, a3, a4⟩ := tkg hok
  have hbl := bh_lt (r k) (tkx x).toNat (gvx x).toNat
  refine ⟨fun i => ?_, ⟨?_, fun i b hb => ?_⟩, (fun e => by cases e), fun _ => ?_⟩
  · unfold seti
    split
    · exact or_lt (h.lt _) hbl
    · exact h.lt i
  · have h0 := h.s.1
    unfold mks at h0 ⊢
    unfold seti
    split
    · rename_i e
      rw [or_bit, ← e, h0]
      rfl
    · exact h0
  · unfold mks at hb
    unfold seti at hb
    split at hb
    · rename_i e
      rw [or_bit, Bool.or_eq_true] at hb
      rcases hb with hb | hb
      · rw [e]; exact h.s.2 _ b hb
      · obtain ⟨b0, q1, q2, q3⟩ := (bh_step a1 a3).1 hb
        rw [e, ← q3]
        exact nxt_reach hx (h.s.2 k b0 q1) q2 ht
    · exact h.s.2 i b hb
  · have hl := left_or (n := n) hn h.lt hbl he
    cases hc : cb with
    | true => have := h.yes hc; omega
    | false => rw [(h.no hc).1] at hl ⊢; exact hl
/-- Nothing has changed: all that is reached is marked. -/
theorem Rx.closed (h : Rx L n r0 r false n j) (hn : n = L.length) (hs : ∀ (i : Nat) (x : Int × Int), L[i]? = some x → okI x = true) : ∀ i b, i < L.length → b ≤ 16 → Cl L (mks r) i b := by
  intro i b hi hb hf x hx hstep
  have hd := (h.no rfl).2.1 i
  obtain ⟨⟨a1, a2⟩, a3, a4⟩ := tkg (hs i x hx)
  have hbit : ∀ (q : Nat) (t : Int), (nxt x i)[q]? = some t → mks r t.toNat (toH x b) = true := fun q t ht => by
    have e := hd q (by omega) x t hx ht
    unfold mks
    rw [← e, or_bit, (bh_step a1 a3).2 ⟨b, hf, hstep, rfl⟩, Bool.or_true]
  refine ⟨fun hj => ?_, fun h1 h2 => ?_⟩
  · have hjb : jumpsB x.1 = true := by unfold jumpsB; simpa using hj
    exact hbit 0 x.2 (by unfold nxt; rw [if_pos hjb]; rfl)
  · have heb : ¬ endsB x.1 = true := by unfold endsB; simp; exact ⟨h1, h2⟩
    have := fun q => hbit q ((i : Int) + 1)
    have e : ((i : Int) + 1).toNat = i + 1 := by omega
    rw [e] at this
    by_cases hjb : jumpsB x.1 = true
    · exact this 1 (by unfold nxt; rw [if_pos hjb, if_neg heb]; rfl)
    · exact this 0 (by unfold nxt; rw [if_neg hjb, if_neg heb]; rfl)
end
/-- The first masks. -/
def ms0 : Nat → Nat := seti (fun _ => 0) 0 1
theorem ms0_lt : ∀ i, ms0 i < 131072 := fun i => by
  unfold ms0 seti
  split
  · decide
  · show 0 < 131072
    decide
theorem ms0_sound (L : List (Int × Int)) : Sound L (mks ms0) := by
  refine ⟨by decide, fun i b hb => ?_⟩
  unfold mks ms0 seti at hb
  split at hb
  · rename_i e
    subst e
    have : b = 0 := by
      have h1 : (2 ^ 0).testBit b = true := hb
      rw [pow_bit] at h1
      have := of_decide_eq_true h1
      omega
    subst this
    exact .zero
  · rw [Nat.zero_testBit] at hb; cases hb
theorem own_shape {w : World} {b : Nat} {v : Value} {l : List Int} (ho : w.ownsRow b 3 1 v l.length (i64s l)) : ∃ A cap, v = .slice A l.length cap ∧ ∀ (j : Nat) (a : Int), l[j]? = some a → ∃ g, A = some ⟨g, 0, none⟩ ∧ w.cell? ⟨g, j, none⟩ = some (.int .i64 a) := by
  rcases ho.2 with ⟨h0, hx⟩ | ⟨g, cap, cur, h0, _⟩
  · have : l = [] := by simpa [i64s] using hx
    subst this
    exact ⟨none, 0, h0, fun j a ha => by simp at ha⟩
  · subst h0
    refine ⟨some ⟨g, 0, none⟩, cap, rfl, fun j a ha => ⟨g, rfl, ?_⟩⟩
    rw [World.ownsRow.cellAt ho j (by have := (List.getElem?_eq_some_iff.1 ha).1; omega), i64s, List.getElem?_map, ha]
    rfl
/-- What goRound holds in memory: the masks; the step at hand. -/
structure GS (W w : World) (rb sb n : Nat) (r : Nat → Nat) (t q : Int) (v : Value) : Prop where
  gw : Gw W w
  m : MsAt w rb n r
  s : Has w sb 66 #[.int .i64 t, .int .i64 q, v]
theorem GS.on {W w w' : World} {rb sb n : Nat} {r : Nat → Nat} {t q : Int} {v : Value} (h : GS W w rb sb n r t q v) (k : Gw w w') : GS W w' rb sb n r t q v := ⟨h.gw.trans k, h.m.on k, h.s.on k⟩
theorem GS.put {W w : World} {rb sb n : Nat} {r : Nat → Nat} {t q : Int} {v : Value} (h : GS W w rb sb n r t q v) {k : Nat} (hk : k < n) (hr : W.heap.size ≤ rb) (hs : sb ≠ rb) (c : Nat) : GS W (w.setCell ⟨rb, k, none⟩ (.int .u32 (c : Nat))) rb sb n (seti r k c) t q v :=
  ⟨(But.set _ _ _ _).gw h.gw hr, h.m.put hk c, (But.set _ _ _ _).has hs h.s⟩
/-- What goRound's row says. -/
def MasksOk (L : List (Int × Int)) (r : Nat → Nat) : Prop := (∀ i, r i < 131072) ∧ ∀ i b, (r i).testBit b = true ↔ Reach L i b
end Go.Proofs.Ythjbjbbbbdhcmaa
