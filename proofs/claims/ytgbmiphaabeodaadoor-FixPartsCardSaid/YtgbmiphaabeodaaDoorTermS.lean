/-
  An arena within a law: what stood before it was made, and the blocks that the law keeps for itself, stay as they are; the contracts of package term in these words.
-/
import Derived.Test.YtgbmiphaabeodaaDoorTermN
namespace Go.Proofs.YtgbmiphaabeodaaDoor
open Go.ChangeShapes Go.WideShapes Go.ChangeAt Go.RowKit
set_option linter.unusedVariables false

/-- The arena at w; all that was there at W0, and the blocks Q, are none of its own. -/
def Cur (W0 w : World) (ab : Nat) (ns : List Nd) (Q : Nat → Prop) : Prop := ∃ foot, Ar w ab ns foot ∧ Below W0.heap.size W0 w ∧ (∀ k, foot k → W0.heap.size ≤ k ∧ ¬ Q k) ∧ (∀ k, Q k → k < w.heap.size)
structure Nxt (W0 w : World) (ab : Nat) (ns : List Nd) (Q : Nat → Prop) (w' : World) (ns' : List Nd) : Prop where
  cur : Cur W0 w' ab ns' Q
  ext : ∃ l, ns' = ns ++ l
  len : ns'.length ≤ ns.length + 1
  q : ∀ k, Q k → w'.heap[k]? = w.heap[k]?
  sz : w.heap.size ≤ w'.heap.size
section
variable {W0 w w' w'' : World} {ab : Nat} {ns ns' ns'' : List Nd} {Q : Nat → Prop}
theorem Cur.wf (h : Cur W0 w ab ns Q) : WF ns := by obtain ⟨foot, a, _⟩ := h; exact a.wf
theorem Cur.nrm (h : Cur W0 w ab ns Q) : NormA ns := by obtain ⟨foot, a, _⟩ := h; exact a.nrm
theorem Cur.once (h : Cur W0 w ab ns Q) : ∀ (i j : Nat) (n : Nd), ns[i]? = some n → ns[j]? = some n → i = j := by obtain ⟨foot, a, _⟩ := h; exact a.once
theorem Cur.below0 (h : Cur W0 w ab ns Q) : Below W0.heap.size W0 w := by obtain ⟨foot, _, b, _⟩ := h; exact b
theorem Cur.below (h : Cur W0 w ab ns Q) (k : Below w.heap.size w w') : Cur W0 w' ab ns Q := by
  obtain ⟨foot, a, b, c, d⟩ := h
  exact ⟨foot, a.below k, b.trans (k.mono b.size), c, fun q hq => Nat.lt_of_lt_of_le (d q hq) k.size⟩
theorem Cur.alike {W : World} (h : Cur W0 w ab ns Q) (he : W.heap = w.heap) (h1 : W.os = w.os) (h2 : W.tape = w.tape) (h3 : W.output = w.output) : Cur W0 W ab ns Q :=
  h.below ⟨h1, h2, h3, by rw [he]; exact Nat.le_refl _, fun k _ => by rw [he]⟩
theorem Cur.alloc (h : Cur W0 w ab ns Q) (o : Obj) : Cur W0 (w.alloc o) ab ns Q := h.below ((Below.refl _ _).alloc (Nat.le_refl _) _)
/-- A block of the law's own. -/
theorem Cur.mine (h : Cur W0 w ab ns Q) (o : Obj) : Cur W0 (w.alloc o) ab ns (fun k => Q k ∨ k = w.heap.size) := by
  obtain ⟨foot, a, b, c, d⟩ := h
  refine ⟨foot, a.alloc o, b.alloc b.size o, fun k hk => ⟨(c k hk).1, ?_⟩, fun k hk => ?_⟩
  · rintro (hq | e)
    · exact (c k hk).2 hq
    · have := a.lt k hk; omega
  · rcases hk with hq | e
    · have := d k hq; simp; omega
    · simp; omega
/-- A store into a block that is the law's own. -/
theorem Cur.store (h : Cur W0 w ab ns Q) {p : Addr} (hp : Q p.block) (h0 : W0.heap.size ≤ p.block) (u : Value) : Cur W0 (w.setCell p u) ab ns Q := by
  obtain ⟨foot, a, b, c, d⟩ := h
  refine ⟨foot, a.keep (fun k hk => set_other (fun e => (c k hk).2 (e ▸ hp))) (by simp [World.setCell]), b.setCell h0 u, c, fun k hk => by have := d k hk; simpa [World.setCell] using this⟩
theorem Cur.grown (h : Cur W0 w ab ns Q) {row : Option Nat} (hg : w.grownBy w' row) (hr : ∀ k, row = some k → Q k ∧ W0.heap.size ≤ k) : Cur W0 w' ab ns Q := by
  obtain ⟨foot, a, b, c, d⟩ := h
  refine ⟨foot, a.keep (fun k hk => hg.block k (a.lt k hk) (fun e => (c k hk).2 (hr k e.symm).1)) hg.size, b.grown hg b.size (fun k e => (hr k e).2), c, fun k hk => Nat.lt_of_lt_of_le (d k hk) hg.size⟩
theorem Cur.less {Q' : Nat → Prop} (h : Cur W0 w ab ns Q) (hq : ∀ k, Q' k → Q k) : Cur W0 w ab ns Q' := by
  obtain ⟨foot, a, b, c, d⟩ := h
  exact ⟨foot, a, b, fun k hk => ⟨(c k hk).1, fun q => (c k hk).2 (hq k q)⟩, fun k hk => d k (hq k hk)⟩
/-- A new block becomes the law's own, where it is known to be none of the arena's. -/
theorem Cur.more {Q' : Nat → Prop} (h : Cur W0 w ab ns Q) {B : Nat} (hg : w.grownBy w' none ∨ True) (hB : w.heap.size ≤ B) (hq : ∀ k, Q' k → Q k ∨ (B ≤ k ∧ k < w'.heap.size)) (k : Below w.heap.size w w') : Cur W0 w' ab ns Q' := by
  obtain ⟨foot, a, b, c, d⟩ := h
  refine ⟨foot, a.below k, b.trans (k.mono b.size), fun x hx => ⟨(c x hx).1, fun q => ?_⟩, fun x hx => ?_⟩
  · rcases hq x q with h1 | ⟨h1, _⟩
    · exact (c x hx).2 h1
    · have := a.lt x hx; omega
  · rcases hq x hx with h1 | ⟨_, h1⟩
    · exact Nat.lt_of_lt_of_le (d x h1) k.size
    · exact h1
theorem Nxt.of_got {foot : Nat → Prop} {P : List Nd → Prop} (b : Below W0.heap.size W0 w) (c : ∀ k, foot k → W0.heap.size ≤ k ∧ ¬ Q k) (d : ∀ k, Q k → k < w.heap.size) (g : Got w ab ns foot w' P) : ∃ ns', Nxt W0 w ab ns Q w' ns' ∧ P ns' := by
  obtain ⟨ns', foot', s, p⟩ := g
  refine ⟨ns', ⟨⟨foot', s.ar, b.trans (s.kept.below b.size (fun k hk hf => by have := (c k hf).1; omega)), fun k hk => ?_, fun k hk => Nat.lt_of_lt_of_le (d k hk) s.kept.size⟩, s.ext, s.len, fun k hk => s.kept.block k (d k hk) (fun hf => (c k hf).2 hk), s.kept.size⟩, p⟩
  rcases s.foot_ k hk with hf | hf
  · exact c k hf
  · have := b.size
    exact ⟨by omega, fun q => by have := d k q; omega⟩
theorem Cur.of_new (h : Ar w' w.heap.size [] (fun k => k = w.heap.size)) (hb : Below w.heap.size w w') : Cur w w' w.heap.size [] (fun _ => False) :=
  ⟨_, h, hb, fun k hk => ⟨by omega, fun f => f.elim⟩, fun k f => f.elim⟩
end
def More (W0 w : World) (ab : Nat) (ns : List Nd) (Q : Nat → Prop) (P : List Nd → Int → Prop) (e : Ending) (w' : World) : Prop :=
  ∃ (x : Int) (ns' : List Nd), e = .returned (.tuple #[.int .i64 x, .int .i64 0]) ∧ Nxt W0 w ab ns Q w' ns' ∧ P ns' x
section
variable (W0 w : World) (ab : Nat) (ns : List Nd) (Q : Nat → Prop)
theorem l_const (wd v : Int) (C : Cur W0 w ab ns Q) (hl : ns.length < 65536) (hw : mayw wd) (v0 : 0 ≤ v) (v1 : v ≤ 65535) :
    Calls Tryd.prog 17 #[ptr ab, .int .i64 wd, .int .u16 v] w (More W0 w ab ns Q (fun ns' x => nd ns' x = some ⟨1, wd, low wd v, 0, 0, 0⟩ ∧ NV ns ns')) := by
  obtain ⟨foot, a, b, c, d⟩ := C
  refine (const_yes w ab ns foot wd v a hl hw v0 v1).mono fun e w' h => ?_
  obtain ⟨x, he, g⟩ := h
  obtain ⟨ns', n, p⟩ := Nxt.of_got b c d g
  exact ⟨x, ns', he, n, ⟨p.1, p.2.1⟩⟩
theorem l_var (wd : Int) (id : Nat) (C : Cur W0 w ab ns Q) (hl : ns.length < 65536) (hw : mayw wd) (hid : id < 64) (hs : ∀ (i : Nat) (m : Nd), ns[i]? = some m → m.op = 2 → m.val = (id : Int) → m.w = wd) :
    Calls Tryd.prog 19 #[ptr ab, .int .i64 wd, .int .i64 id] w (More W0 w ab ns Q (fun ns' x => nd ns' x = some ⟨2, wd, id, 0, 0, 0⟩ ∧ NVV ns ns' ⟨2, wd, id, 0, 0, 0⟩)) := by
  obtain ⟨foot, a, b, c, d⟩ := C
  refine (var_yes w ab ns foot wd id a hl hw hid hs).mono fun e w' h => ?_
  obtain ⟨x, he, g⟩ := h
  obtain ⟨ns', n, p⟩ := Nxt.of_got b c d g
  exact ⟨x, ns', he, n, ⟨p.1, p.2.1⟩⟩
theorem l_vari (wd id : Int) (C : Cur W0 w ab ns Q) (hl : ns.length < 65536) (hw : mayw wd) (h0 : 0 ≤ id) (h1 : id < 64) (hs : ∀ (i : Nat) (m : Nd), ns[i]? = some m → m.op = 2 → m.val = id → m.w = wd) :
    Calls Tryd.prog 19 #[ptr ab, .int .i64 wd, .int .i64 id] w (More W0 w ab ns Q (fun ns' x => nd ns' x = some ⟨2, wd, id, 0, 0, 0⟩ ∧ NVV ns ns' ⟨2, wd, id, 0, 0, 0⟩)) := by
  obtain ⟨k, rfl⟩ := Int.eq_ofNat_of_zero_le h0
  exact l_var W0 w ab ns Q wd k C hl hw (by omega) hs
theorem l_two (op p q : Int) (C : Cur W0 w ab ns Q) (hl : ns.length < 65536) (h0 : 4 ≤ op) (h1 : op ≤ 15) (hp : isT ns p) (hq : isT ns q) (hw : wdt ns q = wdt ns p) :
    Calls Tryd.prog 18 #[ptr ab, .int .i64 op, .int .i64 p, .int .i64 q] w (More W0 w ab ns Q (fun ns' x => MadeP ns ⟨op, outV op (wdt ns p), 0, p, q, 0⟩ x ns')) := by
  obtain ⟨foot, a, b, c, d⟩ := C
  refine (two_yes w ab ns foot op p q a hl h0 h1 hp hq hw).mono fun e w' h => ?_
  obtain ⟨x, he, g⟩ := h
  obtain ⟨ns', n, p⟩ := Nxt.of_got b c d g
  exact ⟨x, ns', he, n, p⟩
theorem l_not (p : Int) (C : Cur W0 w ab ns Q) (hl : ns.length < 65536) (hp : isT ns p) :
    Calls Tryd.prog 21 #[ptr ab, .int .i64 p] w (More W0 w ab ns Q (fun ns' x => MadeP ns ⟨3, wdt ns p, 0, p, 0, 0⟩ x ns')) := by
  obtain ⟨foot, a, b, c, d⟩ := C
  refine (not_yes w ab ns foot p a hl hp).mono fun e w' h => ?_
  obtain ⟨x, he, g⟩ := h
  obtain ⟨ns', n, p⟩ := Nxt.of_got b c d g
  exact ⟨x, ns', he, n, p⟩
theorem l_ite (r p q : Int) (C : Cur W0 w ab ns Q) (hl : ns.length < 65536) (hr : isT ns r) (hp : isT ns p) (hq : isT ns q) (hw1 : wdt ns r = 1) (hw : wdt ns q = wdt ns p) :
    Calls Tryd.prog 22 #[ptr ab, .int .i64 r, .int .i64 p, .int .i64 q] w (More W0 w ab ns Q (fun ns' x => IteP ns r p q x ns')) := by
  obtain ⟨foot, a, b, c, d⟩ := C
  refine (ite_yes w ab ns foot r p q a hl hr hp hq hw1 hw).mono fun e w' h => ?_
  obtain ⟨x, he, g⟩ := h
  obtain ⟨ns', n, p⟩ := Nxt.of_got b c d g
  exact ⟨x, ns', he, n, p⟩
theorem l_ext (wd p : Int) (C : Cur W0 w ab ns Q) (hl : ns.length < 65536) (hw : mayw wd) (hp : isT ns p) (hc : wdt ns p ≤ wd) :
    Calls Tryd.prog 23 #[ptr ab, .int .i64 wd, .int .i64 p] w (More W0 w ab ns Q (fun ns' x => ResP ns wd p x ns')) := by
  obtain ⟨foot, a, b, c, d⟩ := C
  refine (ext_yes w ab ns foot wd p a hl hw hp hc).mono fun e w' h => ?_
  obtain ⟨x, he, g⟩ := h
  obtain ⟨ns', n, p⟩ := Nxt.of_got b c d g
  exact ⟨x, ns', he, n, p.toResP⟩
theorem l_cut (wd p : Int) (C : Cur W0 w ab ns Q) (hl : ns.length < 65536) (hw : mayw wd) (hp : isT ns p) (hc : wd ≤ wdt ns p) :
    Calls Tryd.prog 24 #[ptr ab, .int .i64 wd, .int .i64 p] w (More W0 w ab ns Q (fun ns' x => ResP ns wd p x ns')) := by
  obtain ⟨foot, a, b, c, d⟩ := C
  refine (cut_yes w ab ns foot wd p a hl hw hp hc).mono fun e w' h => ?_
  obtain ⟨x, he, g⟩ := h
  obtain ⟨ns', n, p⟩ := Nxt.of_got b c d g
  exact ⟨x, ns', he, n, p.toResP⟩
end
section
variable {W0 w : World} {ab : Nat} {ns : List Nd} {Q : Nat → Prop}
theorem r_eval (C : Cur W0 w ab ns Q) (A : Option Addr) (cap : Nat) (env : List Int) (x : Int) (he : EnvAt w A env) :
    Calls Tryd.prog 10 #[ptr ab, .int .i64 x, .slice A env.length cap] w fun e w' => e = .returned (.int .u16 (V ns env x)) ∧ Below w.heap.size w w' := by
  obtain ⟨foot, a, b, c, d⟩ := C
  exact eval_any w ab ns foot A cap env x a he
theorem r_width (C : Cur W0 w ab ns Q) (x : Int) :
    Calls Tryd.prog 14 #[ptr ab, .int .i64 x] w fun e w' => e = .returned (.int .i64 (wdt ns x)) ∧ Below w.heap.size w w' := by
  obtain ⟨foot, a, b, c, d⟩ := C
  exact width_any w ab ns foot x a
theorem r_known (C : Cur W0 w ab ns Q) (x : Int) (n : Nd) (hx : nd ns x = some n) (h1 : n.op = 1) :
    Calls Tryd.prog 15 #[ptr ab, .int .i64 x] w fun e w' => e = .returned (.tuple #[.int .u16 n.val, .bool true]) ∧ Below w.heap.size w w' := by
  obtain ⟨foot, a, b, c, d⟩ := C
  exact known_yes w ab ns foot x n a hx h1
theorem r_known_no (C : Cur W0 w ab ns Q) (x : Int) (hx : ¬ isC ns x) :
    Calls Tryd.prog 15 #[ptr ab, .int .i64 x] w fun e w' => e = .returned (.tuple #[.int .u16 0, .bool false]) ∧ Below w.heap.size w w' := by
  obtain ⟨foot, a, b, c, d⟩ := C
  exact known_no w ab ns foot x a hx
theorem r_vars (C : Cur W0 w ab ns Q) (x : Int) (hx : isT ns x) (hT : Tab w) :
    Calls Tryd.prog 9 #[ptr ab, .int .i64 x] w (SliceOf w (bl (Iv ns x))) := by
  obtain ⟨foot, a, b, c, d⟩ := C
  exact vars_yes w ab ns foot x a hx hT
theorem e_varother (C : Cur W0 w ab ns Q) (wd : Int) (id : Nat) (hw : mayw wd) (hid : id < 64) (i : Nat) (m : Nd) (hi : ns[i]? = some m) (ho : m.op = 2) (hv : m.val = (id : Int)) (hne : m.w ≠ wd) :
    Calls Tryd.prog 19 #[ptr ab, .int .i64 wd, .int .i64 id] w fun e w' => e = ERR 1 ∧ Below w.heap.size w w' := by
  obtain ⟨foot, a, b, c, d⟩ := C
  exact var_other w ab ns foot wd id a hw hid i m hi ho hv hne
theorem e_varotheri (C : Cur W0 w ab ns Q) (wd id : Int) (hw : mayw wd) (h0 : 0 ≤ id) (h1 : id < 64) (i : Nat) (m : Nd) (hi : ns[i]? = some m) (ho : m.op = 2) (hv : m.val = id) (hne : m.w ≠ wd) :
    Calls Tryd.prog 19 #[ptr ab, .int .i64 wd, .int .i64 id] w fun e w' => e = ERR 1 ∧ Below w.heap.size w w' := by
  obtain ⟨k, rfl⟩ := Int.eq_ofNat_of_zero_le h0
  exact e_varother C wd k hw (by omega) i m hi ho hv hne
theorem e_twowidth (C : Cur W0 w ab ns Q) (op p q : Int) (h0 : 4 ≤ op) (h1 : op ≤ 15) (hp : isT ns p) (hq : isT ns q) (hw : wdt ns p ≠ wdt ns q) :
    Calls Tryd.prog 18 #[ptr ab, .int .i64 op, .int .i64 p, .int .i64 q] w fun e w' => e = ERR 2 ∧ Below w.heap.size w w' := by
  obtain ⟨foot, a, b, c, d⟩ := C
  exact two_width w ab ns foot op p q a h0 h1 hp hq hw
theorem e_twonone (C : Cur W0 w ab ns Q) (op p q : Int) (h0 : 4 ≤ op) (h1 : op ≤ 15) (hp : isT ns p) (hq : ¬ isT ns q) :
    Calls Tryd.prog 18 #[ptr ab, .int .i64 op, .int .i64 p, .int .i64 q] w fun e w' => e = ERR 1 ∧ Below w.heap.size w w' := by
  obtain ⟨foot, a, b, c, d⟩ := C
  exact two_none w ab ns foot op p q a h0 h1 hp hq
theorem e_notnone (C : Cur W0 w ab ns Q) (p : Int) (hp : ¬ isT ns p) :
    Calls Tryd.prog 21 #[ptr ab, .int .i64 p] w fun e w' => e = ERR 1 ∧ Below w.heap.size w w' := by
  obtain ⟨foot, a, b, c, d⟩ := C
  exact not_none w ab ns foot p a hp
theorem e_ite (C : Cur W0 w ab ns Q) (r p q : Int) (hr : isT ns r) (hp : isT ns p) (hq : isT ns q) (hw : wdt ns r ≠ 1 ∨ wdt ns p ≠ wdt ns q) :
    Calls Tryd.prog 22 #[ptr ab, .int .i64 r, .int .i64 p, .int .i64 q] w fun e w' => e = ERR 2 ∧ Below w.heap.size w w' := by
  obtain ⟨foot, a, b, c, d⟩ := C
  exact ite_width w ab ns foot r p q a hr hp hq hw
theorem e_ext (C : Cur W0 w ab ns Q) (wd p : Int) (hp : isT ns p) (hb : ¬ mayw wd ∨ wd < wdt ns p) :
    Calls Tryd.prog 23 #[ptr ab, .int .i64 wd, .int .i64 p] w fun e w' => e = ERR 2 ∧ Below w.heap.size w w' := by
  obtain ⟨foot, a, b, c, d⟩ := C
  exact ext_no w ab ns foot wd p a hp hb
theorem e_cut (C : Cur W0 w ab ns Q) (wd p : Int) (hp : isT ns p) (hb : ¬ mayw wd ∨ wdt ns p < wd) :
    Calls Tryd.prog 24 #[ptr ab, .int .i64 wd, .int .i64 p] w fun e w' => e = ERR 2 ∧ Below w.heap.size w w' := by
  obtain ⟨foot, a, b, c, d⟩ := C
  exact cut_no w ab ns foot wd p a hp hb
end
theorem Tab.below {B : Nat} {w w' : World} (h : Tab w) (k : Below B w w') (hB : 0 < B) : Tab w' := fun j hj => (k.cell (p := ⟨0, j, none⟩) hB).trans (h j hj)
end Go.Proofs.YtgbmiphaabeodaaDoor
