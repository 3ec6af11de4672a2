/-
  The reader of package prog: next and number.
-/
import Derived.Test.YtcecmkelefhaaaaDoorProgF
import Derived.Test.YtcecmkelefhaaaaDoorProgR
import Derived.Laws.Rows
namespace Go.Proofs.YtcecmkelefhaaaaDoor
open Go.ChangeShapes Go.WideShapes Go.ChangeAt Go.RowKit Go.Joins
set_option linter.unusedVariables false

theorem set_other {w : World} {p : Addr} {u : Value} {k : Nat} (h : k ≠ p.block) : (w.setCell p u).heap[k]? = w.heap[k]? := Below.heap_setCell w p u k h
/-- A block's cells. -/
def Has (w : World) (g : Nat) (t : TypeId) (cs : Array Value) : Prop := w.heap[g]? = some (.cells cs t (0, 0))
section
variable {w w' : World} {g : Nat} {t : TypeId} {cs : Array Value}
theorem lt_of_heap {o : Obj} (h : w.heap[g]? = some o) : g < w.heap.size := (Array.getElem?_eq_some_iff.1 h).1
theorem Has.lt (h : Has w g t cs) : g < w.heap.size := lt_of_heap h
theorem Has.cell (h : Has w g t cs) (i : Nat) : w.cell? ⟨g, i, none⟩ = cs[i]? := by unfold World.cell?; rw [show w.heap[g]? = _ from h]; rfl
theorem Has.free (h : Has w g t cs) (i : Nat) : w.frozen? ⟨g, i, none⟩ = false := by unfold World.frozen?; rw [show w.heap[g]? = _ from h]; simp
theorem Has.new (w : World) (t : TypeId) (cs : Array Value) : Has (w.alloc (.cells cs t)) w.heap.size t cs := heap_alloc_new w _
theorem Has.same (h : Has w g t cs) (e : w'.heap[g]? = w.heap[g]?) : Has w' g t cs := Eq.trans e h
theorem Has.put (h : Has w g t cs) (i : Nat) (u : Value) : Has (w.setCell ⟨g, i, none⟩ u) g t (cs.setIfInBounds i u) := heap_setCell_same w g i cs t u h
end
/-- All is as it was but block g; new blocks may be there. -/
structure But (g : Nat) (W W' : World) : Prop where
  os : W'.os = W.os
  output : W'.output = W.output
  size : W.heap.size ≤ W'.heap.size
  block : ∀ k, k < W.heap.size → k ≠ g → W'.heap[k]? = W.heap[k]?
theorem But.refl (g : Nat) (W : World) : But g W W := ⟨rfl, rfl, Nat.le_refl _, fun _ _ _ => rfl⟩
theorem But.trans {g : Nat} {a b c : World} (h : But g a b) (k : But g b c) : But g a c :=
  ⟨k.os.trans h.os, k.output.trans h.output, Nat.le_trans h.size k.size, fun i hi hg => (k.block i (Nat.lt_of_lt_of_le hi h.size) hg).trans (h.block i hi hg)⟩
theorem But.set (g : Nat) (W : World) (i : Nat) (u : Value) : But g W (W.setCell ⟨g, i, none⟩ u) :=
  ⟨rfl, rfl, by simp, fun k _ hk => set_other (p := ⟨g, i, none⟩) hk⟩
theorem But.gw {g : Nat} {w0 W W' : World} (h : But g W W') (G : Gw w0 W) (hg : w0.heap.size ≤ g) : Gw w0 W' :=
  ⟨h.os.trans G.os, rfl, h.output.trans G.output, Nat.le_trans G.size h.size, fun k hk => (h.block k (Nat.lt_of_lt_of_le hk G.size) (by omega)).trans (G.block k hk)⟩
theorem Gw.but {g : Nat} {W W' : World} (h : Gw W W') : But g W W' := ⟨h.os, h.output, h.size, fun k hk _ => h.block k hk⟩
theorem But.has {g k : Nat} {W W' : World} {t : TypeId} {cs : Array Value} (h : But g W W') (hk : k ≠ g) (hh : Has W k t cs) : Has W' k t cs := hh.same (h.block k hh.lt hk)
/-- Bytes of the caller's, from an address on. -/
def ByAt (w0 : World) (A : Option Addr) (l : List UInt8) : Prop := ∀ (i : Nat) (z : UInt8), l[i]? = some z → ∃ b off, A = some ⟨b, off, none⟩ ∧ b < w0.heap.size ∧ w0.cell? ⟨b, off + i, none⟩ = some (.int .u8 (z.toNat : Int))
theorem ByAt.nil (w0 : World) (A : Option Addr) : ByAt w0 A [] := fun i z h => by rw [List.getElem?_nil] at h; cases h
/-- A reader, in block g. -/
structure RdAt (w0 W : World) (g : Nat) (s : Rd) : Prop where
  gw : Gw w0 W
  ge : w0.heap.size ≤ g
  head : ∃ A cap, Has W g 63 #[.slice A s.l.length cap, .bool s.sh] ∧ s.l.length ≤ cap ∧ cap ≤ 9223372036854775807 ∧ ByAt w0 A s.l
theorem RdAt.but {w0 W W' : World} {g k : Nat} {s : Rd} (h : RdAt w0 W g s) (b : But k W W') (hk : g ≠ k) (hg : w0.heap.size ≤ k) : RdAt w0 W' g s := by
  obtain ⟨A, cap, h1, h2⟩ := h.head
  exact ⟨b.gw h.gw hg, h.ge, A, cap, b.has hk h1, h2⟩
theorem RdAt.on {w0 W W' : World} {g : Nat} {s : Rd} (h : RdAt w0 W g s) (b : Gw W W') : RdAt w0 W' g s := by
  obtain ⟨A, cap, h1, h2⟩ := h.head
  exact ⟨h.gw.trans b, h.ge, A, cap, h1.same (b.block g h1.lt), h2⟩
abbrev NxPost (w0 W : World) (g n : Nat) (s : Rd) (e : Ending) (W' : World) : Prop :=
  ∃ A cap, e = .returned (.slice A (s.nx n).length cap) ∧ (s.nx n).length ≤ cap ∧ cap ≤ 9223372036854775807 ∧ ByAt w0 A (s.nx n) ∧ RdAt w0 W' g (s.go n) ∧ But g W W'
theorem ByAt.take {w0 : World} {A : Option Addr} {l : List UInt8} (h : ByAt w0 A l) (n : Nat) : ByAt w0 A (l.take n) := fun i z hz => by
  rw [List.getElem?_take] at hz
  split at hz
  · exact h i z hz
  · cases hz
theorem ByAt.drop {w0 : World} {b off : Nat} {l : List UInt8} (h : ByAt w0 (some ⟨b, off, none⟩) l) (n : Nat) : ByAt w0 (some ⟨b, off + n, none⟩) (l.drop n) := fun i z hz => by
  rw [List.getElem?_drop] at hz
  obtain ⟨b', off', e, h1, h2⟩ := h _ z hz
  injection e with e
  injection e with e1 e2 _
  subst e1 e2
  exact ⟨b, off + n, rfl, h1, by rw [Nat.add_assoc]; exact h2⟩
theorem ByAt.drop0 {w0 : World} {A : Option Addr} {l : List UInt8} {n : Nat} (h : l.length ≤ n) : ByAt w0 A (l.drop n) := by
  rw [List.drop_eq_nil_of_le h]; exact ByAt.nil _ _
set_option maxHeartbeats 1000000 in
theorem next_any {w0 W : World} {g n : Nat} {s : Rd} (h : RdAt w0 W g s) (hn : n ≤ 255) :
    Calls Tryd.prog 31 #[.pointer (some ⟨g, 0, none⟩), .int .i64 n] W (NxPost w0 W g n s) := by
  obtain ⟨A, cap, hh, h1, h2, h3⟩ := h.head
  obtain ⟨l, sh⟩ := s
  simp only at hh h1 h3
  have c0 := hh.cell 0
  have c1 := hh.cell 1
  have f0 := hh.free 0
  have f1 := hh.free 1
  simp at c0 c1
  by_cases hl : l.length < n
  · have e1 : (⟨l, sh⟩ : Rd).nx n = [] := by unfold Rd.nx; rw [if_pos hl]
    have e2 : (⟨l, sh⟩ : Rd).go n = ⟨[], true⟩ := by unfold Rd.go; rw [if_pos hl]
    unfold NxPost
    rw [e1, e2]
    have HR := Lib.hid h
    have HH := Lib.hid hh
    have hl' : (l.length : Int) < n := by omega
    clear h hh e1 e2 h3
    go_enter Tryd.func31, Tryd.ntmps31
    go_wp2
    go_ret
    have B := (But.set g W 0 (.slice none 0 0)).trans (But.set g _ 1 (.bool true))
    exact ⟨none, 0, rfl, Nat.le_refl _, by omega, ByAt.nil _ _, ⟨B.gw HR.out.gw HR.out.ge, HR.out.ge, none, 0, (HH.out.put 0 _).put 1 _, Nat.le_refl _, by omega, ByAt.nil _ _⟩, B⟩
  · have e1 : (⟨l, sh⟩ : Rd).nx n = l.take n := by unfold Rd.nx; rw [if_neg hl]
    have e2 : (⟨l, sh⟩ : Rd).go n = ⟨l.drop n, sh⟩ := by unfold Rd.go; rw [if_neg hl]
    unfold NxPost
    rw [e1, e2]
    have HR := Lib.hid h
    have HH := Lib.hid hh
    have H3 := Lib.hid h3
    have hl' : decide ((l.length : Int) < n) = false := decide_eq_false (by omega)
    have E3 := Lib.hid (show (l.take n).length = n by rw [List.length_take]; omega)
    clear h hh e1 e2 h3
    rw [E3.out]
    have hn' : (n : Int) ≤ l.length := by omega
    have hc' : (l.length : Int) ≤ cap := by omega
    by_cases hc : cap = n
    · subst hc
      go_enter Tryd.func31, Tryd.ntmps31
      go_wp2
      go_ret
      have B := But.set g W 0 (.slice A 0 0)
      have e0 : l.drop cap = [] := List.drop_eq_nil_of_le (by omega)
      rw [e0]
      exact ⟨A, cap, rfl, Nat.le_refl _, h2, H3.out.take _, ⟨B.gw HR.out.gw HR.out.ge, HR.out.ge, A, 0, HH.out.put 0 _, Nat.le_refl _, by omega, ByAt.nil _ _⟩, B⟩
    · have hcd : (cap - n == 0) = false := by rw [beq_eq_false_iff_ne]; omega
      have E4 := Lib.hid (show (l.drop n).length = l.length - n from List.length_drop)
      cases A with
      | none =>
        have hz : Hid (l = []) := by
          cases l with
          | nil => rfl
          | cons z l =>
            obtain ⟨b, off, e, _⟩ := H3.out 0 z rfl
            cases e
        go_enter Tryd.func31, Tryd.ntmps31
        go_wp2
        go_ret
        have B := But.set g W 0 (.slice none (l.length - n) (cap - n))
        exact ⟨none, cap, rfl, by omega, h2, H3.out.take _, ⟨B.gw HR.out.gw HR.out.ge, HR.out.ge, none, cap - n, by rw [E4.out]; exact HH.out.put 0 _, by rw [E4.out]; omega, by omega, by rw [hz.out, List.drop_nil]; exact ByAt.nil _ _⟩, B⟩
      | some A =>
        have hA : ByAt w0 (some (A.add n)) (l.drop n) := by
          obtain ⟨b, off, spot⟩ := A
          cases hd : l.drop n with
          | nil => exact ByAt.nil _ _
          | cons z r =>
            have h9 : l[n]? = some z := by
              have := congrArg (·[0]?) hd
              simpa [List.getElem?_drop] using this
            obtain ⟨b', off', e, _⟩ := H3.out n z h9
            injection e with e
            injection e with _ _ e3
            subst e3
            rw [add_eq, ← hd]
            exact H3.out.drop n
        go_enter Tryd.func31, Tryd.ntmps31
        go_wp2
        go_ret
        have B := But.set g W 0 (.slice (some (A.add n)) (l.length - n) (cap - n))
        exact ⟨some A, cap, rfl, by omega, h2, H3.out.take _, ⟨B.gw HR.out.gw HR.out.ge, HR.out.ge, some (A.add n), cap - n, by rw [E4.out]; exact HH.out.put 0 _, by rw [E4.out]; omega, by omega, hA⟩, B⟩
theorem or8 (v y : Nat) (hv : v ≤ 255) (hy : y < 2 ^ 8) : bits .or .i64 ((v : Int) * 256) (y : Int) = ((v * 256 + y : Nat) : Int) := by
  have h1 : (BitVec.ofInt 64 (((v * 256 : Nat) : Int))).toNat = v * 256 := by
    rw [BitVec.ofInt_natCast, BitVec.toNat_ofNat]; exact Nat.mod_eq_of_lt (by omega)
  have h2 : (BitVec.ofInt 64 (y : Int)).toNat = y := by
    rw [BitVec.ofInt_natCast, BitVec.toNat_ofNat]; exact Nat.mod_eq_of_lt (by omega)
  have h3 : v * 256 ||| y = v * 256 + y := by
    have := Nat.shiftLeft_add_eq_or_of_lt hy v
    rw [Nat.shiftLeft_eq] at this
    exact this.symm
  have h4 : ((v : Int) * 256) = ((v * 256 : Nat) : Int) := by omega
  rw [h4]
  show IntKind.i64.wrap ((BitVec.ofInt 64 ((v * 256 : Nat) : Int) ||| BitVec.ofInt 64 (y : Int)).toNat : Int) = _
  rw [BitVec.toNat_or, h1, h2, h3]
  simp only [IntKind.wrap, IntKind.bits, IntKind.signed]
  simp
  omega
/-- number's loop: the number of the first k bytes. -/
theorem num_take {l : List UInt8} {k : Nat} {z : UInt8} (h : l[k]? = some z) : num (l.take (k + 1)) = num (l.take k) * 256 + z.toNat := by
  have hk := (List.getElem?_eq_some_iff.1 h).1
  rw [List.take_succ_eq_append_getElem hk, (List.getElem?_eq_some_iff.1 h).2]
  unfold num
  rw [List.foldl_append]
  rfl
abbrev NumPost (w0 W : World) (g n : Nat) (s : Rd) (e : Ending) (W' : World) : Prop :=
  e = .returned (.int .i64 (num (s.nx n) : Nat)) ∧ RdAt w0 W' g (s.go n) ∧ But g W W'
set_option maxHeartbeats 1000000 in
theorem number_any {w0 W : World} {g n : Nat} {s : Rd} (h : RdAt w0 W g s) (hn : n ≤ 2) :
    Calls Tryd.prog 30 #[.pointer (some ⟨g, 0, none⟩), .int .i64 n] W (NumPost w0 W g n s) := by
  have C := next_any h (n := n) (by omega)
  have hl := nx_len s n
  have hge := h.ge
  unfold NumPost
  unfold NxPost at C
  generalize s.nx n = l at C hl ⊢
  generalize s.go n = s2 at C ⊢
  clear h
  go_enter Tryd.func30, Tryd.ntmps30
  go_wp2_with (go_at_call 31; with_reducible refine C.mono ?_; rintro e w' ⟨A, cap, rfl, h1, h2, h3, h4, h5⟩)
  have H3 := Lib.hid h3
  have H4 := Lib.hid h4
  have H5 := Lib.hid h5
  have hl2 : l.length ≤ 2 := by omega
  clear h3 h4 h5
  generalize w' = w1 at *
  go_loop [5, 12] (fun v i => ∃ k : Nat, k ≤ l.length ∧ i = .int .i64 k ∧ v = .int .i64 (num (l.take k) : Nat)) (fun _ i => l.length - (intOf i).toNat)
  case atStart => exact ⟨0, by omega, rfl, rfl⟩
  case round =>
    obtain ⟨k, hk, rfl, rfl⟩ := hrel
    by_cases hlt : k < l.length
    · obtain ⟨z, hz⟩ : ∃ z, l[k]? = some z := ⟨_, List.getElem?_eq_getElem hlt⟩
      obtain ⟨b, off, rfl, hb, hc0⟩ := H3.out k z hz
      have hcell := H4.out.gw.cell hc0
      have HN := Lib.hid (num_take hz)
      have hv : num (l.take k) ≤ 255 := by
        have : k = 0 ∨ k = 1 := by omega
        rcases this with rfl | rfl
        · simp [num]
        · exact take1_le l
      have hz8 := UInt8.toNat_lt z
      generalize num (l.take k) = v at *
      generalize z.toNat = y at *
      clear hz hc0
      go_wp2
      exact ⟨⟨k + 1, by omega, by go_num, by rw [HN.out, or8 v y hv hz8]⟩, by simp [intOf]; omega⟩
    · obtain rfl : k = l.length := by omega
      go_wp2
      go_ret
      exact ⟨rfl, H4.out, H5.out⟩
end Go.Proofs.YtcecmkelefhaaaaDoor
