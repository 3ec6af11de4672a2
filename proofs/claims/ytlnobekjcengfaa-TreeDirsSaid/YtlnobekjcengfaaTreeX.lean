/-
  What the program's own tree is to answer, as propositions: a predicate T of a set of blocks; the laws' awake over them.
-/
import Derived.Test.YtlnobekjcengfaaTreeN
import Derived.Test.YtlnobekjcengfaaTreeO
namespace Go.Proofs.Ytlnobekjcengfaa
open Go.ChangeShapes Go.WideShapes Go.ChangeAt Go.RowKit Go.Joins
set_option linter.unusedVariables false
set_option linter.unusedSimpArgs false

deriving instance DecidableEq for St
/-- Nothing but the blocks of F has changed. -/
structure ChF (F : Nat → Prop) (W W' : World) : Prop where
  os : W'.os = W.os
  output : W'.output = W.output
  size : W.heap.size ≤ W'.heap.size
  block : ∀ k, k < W.heap.size → ¬ F k → W'.heap[k]? = W.heap[k]?
abbrev TP := (Nat → Prop) → World → Value → St → Prop
/-- What was done to a tree has been done to it alone. -/
structure Kp (T : TP) (F : Nat → Prop) (v : Value) (s' : St) (W W' : World) : Prop where
  ch : ChF F W W'
  ex : ∃ F', T F' W' v s' ∧ ∀ k, F' k → F k ∨ W.heap.size ≤ k
/-- What New answers. -/
def NewP (T : TP) (W : World) (es : List (List UInt8 × Bool)) (e : Ending) (W' : World) : Prop := match newT es with
  | none => e = .returned (.tuple #[.pointer none, .int .i64 11]) ∧ Gw W W'
  | some s => ∃ a F, e = .returned (.tuple #[.pointer (some a), .int .i64 0]) ∧ T F W' (.pointer (some a)) s ∧ Gw W W' ∧ ∀ k, F k → W.heap.size ≤ k
structure TreeC (T : TP) : Prop where
  lt : ∀ {F W v s k}, T F W v s → F k → k < W.heap.size
  same : ∀ {F W W' v s}, T F W v s → (∀ k, F k → W'.heap[k]? = W.heap[k]?) → T F W' v s
  new : ∀ {W x es}, EntAt W x es → (∀ e ∈ es, e.1.length ≤ 140737488351232) → es.length ≤ 4611686018427387904 → Calls Try.prog 10 #[x] W fun e W' => NewP T W es e W'
  find : ∀ {F W v s} (p : ByteArray), T F W v s → Ok s.l → s.l.length ≤ 8 → p.size ≤ 140737488351232 → Calls Try.prog 20 #[v, .string p] W fun e W' => e = .returned (fV (findT s.l p.data.toList)) ∧ Kp T F v s W W'
  make : ∀ {F W v s} (p : ByteArray) (d : Bool), T F W v s → Ok s.l → s.l.length ≤ 8 → p.size ≤ 140737488351232 → 0 ≤ s.nx → s.nx ≤ 4611686018427387904 → Calls Try.prog 16 #[v, .string p, .bool d] W fun e W' => e = .returned (mV (makeT s p.data.toList d).1) ∧ Kp T F v (makeT s p.data.toList d).2 W W'
  drop : ∀ {F W v s} (p : ByteArray) (d : Bool), T F W v s → Ok s.l → s.l.length ≤ 8 → p.size ≤ 140737488351232 → Calls Try.prog 17 #[v, .string p, .bool d] W fun e W' => e = .returned (.int .u16 (dropT s p.data.toList d).1) ∧ Kp T F v (dropT s p.data.toList d).2 W W'
  move : ∀ {F W v s} (a b : ByteArray), T F W v s → Ok s.l → s.l.length ≤ 8 → a.size ≤ 140737488351232 → b.size ≤ 140737488351232 → Calls Try.prog 18 #[v, .string a, .string b] W fun e W' => e = .returned (mV (moveT s a.data.toList b.data.toList).1) ∧ Kp T F v (moveT s a.data.toList b.data.toList).2 W W'
  many : ∀ {F W v s} (p : ByteArray), T F W v s → Ok s.l → s.l.length ≤ 8 → p.size ≤ 140737488351232 → Calls Try.prog 19 #[v, .string p] W fun e W' => e = .returned (.int .u16 (manyT s.l p.data.toList)) ∧ Kp T F v s W W'
  len : ∀ {F W v s}, T F W v s → Ok s.l → s.l.length ≤ 8 → Calls Try.prog 13 #[v] W fun e W' => e = .returned (.int .i64 s.l.length) ∧ Gw W W'
  copy : ∀ {F W v s}, T F W v s → Ok s.l → s.l.length ≤ 8 → Calls Try.prog 15 #[v] W fun e W' => ∃ a F', e = .returned (.pointer (some a)) ∧ Gw W W' ∧ T F' W' (.pointer (some a)) s ∧ ∀ k, F' k → W.heap.size ≤ k
theorem Kp.of_gw {T : TP} (C : TreeC T) {F : Nat → Prop} {v : Value} {s : St} {W W' : World} (h : T F W v s) (G : Gw W W') : Kp T F v s W W' := ⟨⟨G.os, G.output, G.size, fun k hk _ => G.block k hk⟩, F, C.same h (fun k hk => G.block k (C.lt h hk)), fun _ hk => .inl hk⟩
/-- A tree that the call has made. -/
structure Mn (T : TP) (W w : World) (v : Value) (s : St) : Prop where
  gw : Gw W w
  ex : ∃ F, T F w v s ∧ ∀ k, F k → W.heap.size ≤ k
theorem Mn.next {T : TP} {W w w' : World} {v : Value} {s' : St} {F : Nat → Prop} (G : Gw W w) (hF : ∀ k, F k → W.heap.size ≤ k) (k : Kp T F v s' w w') : Mn T W w' v s' := by
  obtain ⟨F', h1, h2⟩ := k.ex
  refine ⟨⟨k.ch.os.trans G.os, rfl, k.ch.output.trans G.output, Nat.le_trans G.size k.ch.size, fun j hj => (k.ch.block j (Nat.lt_of_lt_of_le hj G.size) (fun hf => by have := hF j hf; omega)).trans (G.block j hj)⟩, F', h1, fun j hj => ?_⟩
  rcases h2 j hj with h | h
  · exact hF j h
  · exact Nat.le_trans G.size h
section
variable {T : TP} {W w : World} {v : Value} {s : St}
theorem m_find (C : TreeC T) (M : Mn T W w v s) (hok : Ok s.l) (hlen : s.l.length ≤ 8) (p : ByteArray) (hp : p.size ≤ 140737488351232) : Calls Try.prog 20 #[v, .string p] w fun e w' => e = .returned (fV (findT s.l p.data.toList)) ∧ Mn T W w' v s := by
  obtain ⟨F, h, hF⟩ := M.ex
  exact (C.find p h hok hlen hp).mono fun _ _ ⟨he, k⟩ => ⟨he, Mn.next M.gw hF k⟩
theorem m_make (C : TreeC T) (M : Mn T W w v s) (hok : Ok s.l) (hlen : s.l.length ≤ 8) (p : ByteArray) (hp : p.size ≤ 140737488351232) (d : Bool) (h0 : 0 ≤ s.nx) (h1 : s.nx ≤ 4611686018427387904) : Calls Try.prog 16 #[v, .string p, .bool d] w fun e w' => e = .returned (mV (makeT s p.data.toList d).1) ∧ Mn T W w' v (makeT s p.data.toList d).2 := by
  obtain ⟨F, h, hF⟩ := M.ex
  exact (C.make p d h hok hlen hp h0 h1).mono fun _ _ ⟨he, k⟩ => ⟨he, Mn.next M.gw hF k⟩
theorem m_drop (C : TreeC T) (M : Mn T W w v s) (hok : Ok s.l) (hlen : s.l.length ≤ 8) (p : ByteArray) (hp : p.size ≤ 140737488351232) (d : Bool) : Calls Try.prog 17 #[v, .string p, .bool d] w fun e w' => e = .returned (.int .u16 (dropT s p.data.toList d).1) ∧ Mn T W w' v (dropT s p.data.toList d).2 := by
  obtain ⟨F, h, hF⟩ := M.ex
  exact (C.drop p d h hok hlen hp).mono fun _ _ ⟨he, k⟩ => ⟨he, Mn.next M.gw hF k⟩
theorem m_move (C : TreeC T) (M : Mn T W w v s) (hok : Ok s.l) (hlen : s.l.length ≤ 8) (a b : ByteArray) (ha : a.size ≤ 140737488351232) (hb : b.size ≤ 140737488351232) : Calls Try.prog 18 #[v, .string a, .string b] w fun e w' => e = .returned (mV (moveT s a.data.toList b.data.toList).1) ∧ Mn T W w' v (moveT s a.data.toList b.data.toList).2 := by
  obtain ⟨F, h, hF⟩ := M.ex
  exact (C.move a b h hok hlen ha hb).mono fun _ _ ⟨he, k⟩ => ⟨he, Mn.next M.gw hF k⟩
theorem m_many (C : TreeC T) (M : Mn T W w v s) (hok : Ok s.l) (hlen : s.l.length ≤ 8) (p : ByteArray) (hp : p.size ≤ 140737488351232) : Calls Try.prog 19 #[v, .string p] w fun e w' => e = .returned (.int .u16 (manyT s.l p.data.toList)) ∧ Mn T W w' v s := by
  obtain ⟨F, h, hF⟩ := M.ex
  exact (C.many p h hok hlen hp).mono fun _ _ ⟨he, k⟩ => ⟨he, Mn.next M.gw hF k⟩
theorem m_len (C : TreeC T) (M : Mn T W w v s) (hok : Ok s.l) (hlen : s.l.length ≤ 8) : Calls Try.prog 13 #[v] w fun e w' => e = .returned (.int .i64 s.l.length) ∧ Mn T W w' v s := by
  obtain ⟨F, h, hF⟩ := M.ex
  exact (C.len h hok hlen).mono fun _ _ ⟨he, G⟩ => ⟨he, Mn.next M.gw hF (Kp.of_gw C h G)⟩
theorem Mn.drewM (C : TreeC T) (M : Mn T W w v s) (n : Nat) : Mn T W (w.drewN n) v s := by
  obtain ⟨F, h, hF⟩ := M.ex
  exact ⟨M.gw.drewM n, F, C.same h (fun _ _ => rfl), hF⟩
end
theorem m_new {T : TP} (C : TreeC T) {W w : World} (G : Gw W w) {x : Value} {es : List (List UInt8 × Bool)} (h : EntAt w x es) (hs : ∀ e ∈ es, e.1.length ≤ 140737488351232) (hl : es.length ≤ 4611686018427387904) {s : St} (hn : newT es = some s) :
    Calls Try.prog 10 #[x] w fun e w' => ∃ a, e = .returned (.tuple #[.pointer (some a), .int .i64 0]) ∧ Mn T W w' (.pointer (some a)) s :=
  (C.new h hs hl).mono fun e w' k => by
    unfold NewP at k
    rw [hn] at k
    obtain ⟨a, F, h1, h2, h3, h4⟩ := k
    exact ⟨a, h1, G.trans h3, F, h2, fun k hk => Nat.le_trans G.size (h4 k hk)⟩
/-- The laws' awake. -/
def AwT : Prop := ∀ W : World, Calls Try.prog 8 #[] W fun e W' => e = .returned (.bool true) ∧ Gw W W'
theorem awake_t {T : TP} (C : TreeC T) : AwT := by
  intro W
  have e1 : makeT ⟨[], 0⟩ [97] false = ((0, 0), ⟨[⟨[97], false, 0⟩], 1⟩) := by decide +kernel
  have e2 : findT [⟨[97], false, 0⟩] [97] = (0, false, 0) := by decide +kernel
  have e3 : findT [⟨[97], false, 0⟩] [98] = (-1, false, 65282) := by decide +kernel
  have ok1 : Ok [⟨[97], false, 0⟩] := by have := make_ok (s := ⟨[], 0⟩) Ok.nil [97] false; rw [e1] at this; exact this
  have N := m_new C (Gw.refl W) (x := .slice none 0 0) (es := []) (EntAt.nil _) (by simp) (by decide) (s := ⟨[], 0⟩) rfl
  have M1 : ∀ w v, Mn T W w v ⟨[], 0⟩ → Calls Try.prog 16 #[v, .string ⟨#[97]⟩, .bool false] w fun e w' => e = .returned (.tuple #[.int .i64 0, .int .u16 0]) ∧ Mn T W w' v ⟨[⟨[97], false, 0⟩], 1⟩ := fun w v M => by
    have := m_make C M Ok.nil (by decide) ⟨#[97]⟩ (by decide) false (by decide) (by decide)
    rw [show (⟨#[97]⟩ : ByteArray).data.toList = [97] from rfl, e1] at this
    exact this
  have F1 : ∀ w v, Mn T W w v ⟨[⟨[97], false, 0⟩], 1⟩ → Calls Try.prog 20 #[v, .string ⟨#[97]⟩] w fun e w' => e = .returned (.tuple #[.int .i64 0, .bool false, .int .u16 0]) ∧ Mn T W w' v ⟨[⟨[97], false, 0⟩], 1⟩ := fun w v M => by
    have := m_find C M ok1 (by decide) ⟨#[97]⟩ (by decide)
    rw [show (⟨#[97]⟩ : ByteArray).data.toList = [97] from rfl, e2] at this
    exact this
  have F2 : ∀ w v, Mn T W w v ⟨[⟨[97], false, 0⟩], 1⟩ → Calls Try.prog 20 #[v, .string ⟨#[98]⟩] w fun e w' => e = .returned (.tuple #[.int .i64 (-1), .bool false, .int .u16 65282]) ∧ Mn T W w' v ⟨[⟨[97], false, 0⟩], 1⟩ := fun w v M => by
    have := m_find C M ok1 (by decide) ⟨#[98]⟩ (by decide)
    rw [show (⟨#[98]⟩ : ByteArray).data.toList = [98] from rfl, e3] at this
    exact this
  have L1 : ∀ w v, Mn T W w v ⟨[⟨[97], false, 0⟩], 1⟩ → Calls Try.prog 13 #[v] w fun e w' => e = .returned (.int .i64 1) ∧ Mn T W w' v ⟨[⟨[97], false, 0⟩], 1⟩ := fun w v M => m_len C M ok1 (by decide)
  have hn : ∀ b w, (Op.unary .not (.bool b)).run Try.prog w = .ok (.bool (!b)) w := fun _ _ => rfl
  clear e1 e2 e3 ok1
  go_enter Try.func8, Try.ntmps8
  go_wp2_with (first
    | (go_at_call 10; with_reducible refine N.mono ?_; rintro e w1 ⟨a, rfl, M⟩)
    | (go_at_call 16; with_reducible refine (M1 _ _ M).mono ?_; rintro e w2 ⟨rfl, M⟩)
    | (go_at_call 20; first | (with_reducible refine (F1 _ _ M).mono ?_; rintro e w2 ⟨rfl, M⟩) | (with_reducible refine (F2 _ _ M).mono ?_; rintro e w2 ⟨rfl, M⟩))
    | (go_at_call 13; with_reducible refine (L1 _ _ M).mono ?_; rintro e w2 ⟨rfl, M⟩))
  go_ret
  exact ⟨rfl, M.gw⟩
end Go.Proofs.Ytlnobekjcengfaa
