/-
  How one reckoning of terms lies in memory; what variable and keep of package term do to it.
-/
import Derived.Test.YtgbmiphaabeodaaDoorTermR
import Derived.Deep.RegionHeld3
import Derived.Maps.Range
import Derived.Maps.OwnOps
import Derived.WalkSpells
import Derived.Carry
import Derived.Deep.DrawnRows
namespace Go.Proofs.YtgbmiphaabeodaaDoor
open Go.ChangeShapes Go.WideShapes Go.ChangeAt Go.RowKit
set_option linter.unusedVariables false

structure EnvAt (w : World) (A : Option Addr) (env : List Int) : Prop where
  get : ∀ (i : Nat) (v : Int), env[i]? = some v → ∃ a, A = some a ∧ w.cell? (a.add i) = some (.int .u16 v)
  lt : ∀ a, A = some a → a.block < w.heap.size
  rng : ∀ v ∈ env, 0 ≤ v ∧ v ≤ 65535
  len : env.length ≤ 9223372036854775807
theorem below_drewN {B : Nat} {a w : World} (h : Below B a w) (n : Nat) : Below B a (w.drewN n) := ⟨h.os, h.tape, h.output, h.size, h.block⟩
theorem add_block (a : Addr) (n : Nat) : (a.add n).block = a.block := by unfold Addr.add; split <;> rfl
theorem cell_heap {w w' : World} {a : Addr} (h : w'.heap[a.block]? = w.heap[a.block]?) : w'.cell? a = w.cell? a := World.cell?_of_block h
theorem EnvAt.keep {w w' : World} {A : Option Addr} {env : List Int} (h : EnvAt w A env) (k : ∀ a, A = some a → w'.heap[a.block]? = w.heap[a.block]?) (hs : w.heap.size ≤ w'.heap.size) : EnvAt w' A env :=
  ⟨fun i v hv => by
    obtain ⟨a, ha, hc⟩ := h.get i v hv
    exact ⟨a, ha, by rw [cell_heap (w := w) (a := a.add i) (by rw [add_block]; exact k a ha)]; exact hc⟩, fun a ha => Nat.lt_of_lt_of_le (h.lt a ha) hs, h.rng, h.len⟩
theorem EnvAt.getD {w : World} {A : Option Addr} {env : List Int} (h : EnvAt w A env) (i : Nat) : 0 ≤ env.getD i 0 ∧ env.getD i 0 ≤ 65535 := by
  by_cases hi : i < env.length
  · rw [List.getD_eq_getElem?_getD, List.getElem?_eq_getElem hi]; exact h.rng _ (List.getElem_mem hi)
  · rw [List.getD_eq_getElem?_getD, List.getElem?_eq_none (by omega)]; decide

theorem keyedT : Maps.Keyed Tryd.prog 33 := Maps.int_keyed Tryd.underlying33
theorem zeroU (w : World) : (zeroValue 24).run Tryd.prog w = .ok (.int .u16 0) w := by kernel_rfl
open Maps in
/-- What was reckoned so far is what it is worth. -/
def SeenD (D : DataW Unit) (ns : List Nd) (env : List Int) : Prop := ∀ k, has D k = true → ∃ x, k = .int .i64 x ∧ isT ns x ∧ ∀ z, D.atKey k z = .lit (.int .u16 (V ns env x))
structure Ev (w : World) (eb ab : Nat) (ns : List Nd) (foot : Nat → Prop) (A : Option Addr) (cap : Nat) (env : List Int) (mo : Option Nat) : Prop where
  ar : Ar w ab ns foot
  blk : ∃ c : Int, Has w eb 73 #[ptr ab, .slice A env.length cap, .int .i64 c, .map mo]
  nf : ¬ foot eb
  env_ : EnvAt w A env
  nq : ∀ a, A = some a → a.block ≠ eb ∧ mo ≠ some a.block
  seen : ∀ b, mo = some b → ¬ foot b ∧ ∃ D, w.ownsMap Tryd.prog 33 (plainElem Tryd.prog 24) b ns.length D ∧ SeenD D ns env
def mine (eb : Nat) (mo : Option Nat) : Nat → Prop := fun k => k = eb ∨ mo = some k
structure EvPost (w : World) (eb ab : Nat) (ns : List Nd) (foot : Nat → Prop) (A : Option Addr) (cap : Nat) (env : List Int) (mo : Option Nat) (w' : World) (mo' : Option Nat) : Prop where
  ev : Ev w' eb ab ns foot A cap env mo'
  kept : Kept (mine eb mo) w w'
  mo : mo' = mo ∨ ∃ b, mo' = some b ∧ w.heap.size ≤ b
section
variable {w w' w'' : World} {eb ab : Nat} {ns : List Nd} {foot : Nat → Prop} {A : Option Addr} {cap : Nat} {env : List Int} {mo mo' mo'' : Option Nat}
theorem Ev.lt (h : Ev w eb ab ns foot A cap env mo) : eb < w.heap.size := by obtain ⟨c, hc⟩ := h.blk; exact hc.lt
theorem Ev.molt (h : Ev w eb ab ns foot A cap env mo) {b : Nat} (hb : mo = some b) : b < w.heap.size := by
  obtain ⟨_, D, ho, _⟩ := h.seen b hb; exact ho.lt
theorem Ev.below (h : Ev w eb ab ns foot A cap env mo) (k : Below w.heap.size w w') : Ev w' eb ab ns foot A cap env mo :=
  ⟨h.ar.below k, by obtain ⟨c, hc⟩ := h.blk; exact ⟨c, hc.same (k.block _ hc.lt)⟩, h.nf, h.env_.keep (fun a ha => k.block _ (h.env_.lt a ha)) k.size, h.nq, fun b hb => by
    obtain ⟨h1, D, ho, hd⟩ := h.seen b hb
    exact ⟨h1, D, ownsMap_same ho (k.block _ ho.lt), hd⟩⟩
theorem Ev.alloc (h : Ev w eb ab ns foot A cap env mo) (o : Obj) : Ev (w.alloc o) eb ab ns foot A cap env mo := h.below ((Below.refl _ _).alloc (Nat.le_refl _) _)
theorem Ev.drewN (h : Ev w eb ab ns foot A cap env mo) (n : Nat) : Ev (w.drewN n) eb ab ns foot A cap env mo := h.below ⟨rfl, rfl, rfl, Nat.le_refl _, fun _ _ => rfl⟩
theorem EvPost.refl (h : Ev w eb ab ns foot A cap env mo) : EvPost w eb ab ns foot A cap env mo w mo := ⟨h, Kept.refl _ _, .inl rfl⟩
theorem EvPost.of_below (h : Ev w eb ab ns foot A cap env mo) (k : Below w.heap.size w w') : EvPost w eb ab ns foot A cap env mo w' mo := ⟨h.below k, Kept.of_below k, .inl rfl⟩
theorem EvPost.trans (h : EvPost w eb ab ns foot A cap env mo w' mo') (k : EvPost w' eb ab ns foot A cap env mo' w'' mo'') : EvPost w eb ab ns foot A cap env mo w'' mo'' := by
  refine ⟨k.ev, h.kept.trans k.kept fun b hb hm => ?_, ?_⟩
  · rcases hm with rfl | hm
    · exact .inl rfl
    · rcases h.mo with e | ⟨b', e, hb'⟩
      · exact .inr (e ▸ hm)
      · rw [e] at hm; injection hm with hm; omega
  · rcases k.mo with e | ⟨b', e, hb'⟩
    · rcases h.mo with e' | ⟨b, e', hb⟩
      · exact .inl (e.trans e')
      · exact .inr ⟨b, e.trans e', hb⟩
    · exact .inr ⟨b', e, Nat.le_trans h.kept.size hb'⟩
theorem EvPost.cell (h : EvPost w eb ab ns foot A cap env mo w' mo') {g : Nat} (hg : g < w.heap.size) (h1 : g ≠ eb) (h2 : mo ≠ some g) (o : Nat) : w'.cell? ⟨g, o, none⟩ = w.cell? ⟨g, o, none⟩ :=
  cell_heap (a := ⟨g, o, none⟩) (h.kept.block g hg (by rintro (rfl | e); exact h1 rfl; exact h2 e))
theorem Ev.arena (h : Ev w eb ab ns foot A cap env mo) : w.cell? ⟨eb, 0, none⟩ = some (ptr ab) := by obtain ⟨c, hc⟩ := h.blk; exact hc.cell 0
end

/-- A call that leaves the world alone, behind draws. -/
theorem calm_one {P : Program} {f : FuncId} {args : Array Value} {w : World} {n : Nat} {v : Value} (h : ∀ W : World, Calls P f args W fun e W' => e = .returned v ∧ W = W') :
    Calls P f args (w.drewN n) fun e W => e = .returned v ∧ ∃ m, W = w.drewN m := (h _).mono fun _ _ k => ⟨k.1, n, k.2.symm⟩
theorem calm_two {P : Program} {f : FuncId} {args : Array Value} {w : World} {a n : Nat} {v : Value} (h : ∀ W : World, Calls P f args W fun e W' => e = .returned v ∧ W = W') :
    Calls P f args (w.drewN (a + n)) fun e W => e = .returned v ∧ ∃ m, W = w.drewN (a + m) := (h _).mono fun _ _ k => ⟨k.1, n, k.2.symm⟩
theorem u16_i64 (x : Int) (h0 : 0 ≤ x) (h1 : x ≤ 65535) : IntKind.i64.wrap x = x := IntWalk.i64_in _ (by omega)
/-- What a Var is worth. -/
theorem variable_any (w : World) (eb ab : Nat) (ns : List Nd) (foot : Nat → Prop) (A : Option Addr) (cap : Nat) (env : List Int) (mo : Option Nat) (n : Nd) (h : Ev w eb ab ns foot A cap env mo) (hw : mayw n.w) (v0 : 0 ≤ n.val) (v1 : n.val ≤ 65535) :
    Calls Tryd.prog 43 #[ptr eb, n.ag] w fun e w' => e = .returned (.int .u16 (low n.w (env.getD n.val.toNat 0))) ∧ Below w.heap.size w w' := by
  obtain ⟨op, wd, val, a, b, c⟩ := n
  obtain ⟨i, rfl⟩ := Int.eq_ofNat_of_zero_le v0
  have hlen := h.env_.len
  have c1 : w.cell? ⟨eb, 1, none⟩ = some (.slice A env.length cap) := by obtain ⟨c, hc⟩ := h.blk; exact hc.cell 1
  have hlt := h.lt
  have v1' : (i : Int) ≤ 65535 := v1
  clear v0 v1
  have hw' : mayw wd := hw
  clear hw
  by_cases hi : i < env.length
  · obtain ⟨ad, rfl, hcell⟩ := h.env_.get i _ (List.getElem?_eq_getElem hi)
    have hadlt := h.env_.lt ad rfl
    have hr := h.env_.rng _ (List.getElem_mem hi)
    have e1 := Lib.hid (show env.getD i 0 = env[i] by rw [List.getD_eq_getElem?_getD, List.getElem?_eq_getElem hi]; rfl)
    generalize env[i] = u at hcell hr e1
    obtain ⟨r0, r1⟩ := hr
    have E := Lib.hid (u16_mask hw' u r0 r1)
    generalize env.length = len at *
    have hcA := fun o => (World.cell?_alloc_lt w o (ad.add i) (by rw [add_block]; exact hadlt)).trans hcell
    clear h hcell
    go_enter Tryd.func43, Tryd.ntmps43
    go_wp2
    go_quiet (fail)
    go_wp2
    go_quiet ((go_at_call 37; exact calm_two (fun W => mask_yes _ W hw')))
    go_wp2
    go_ret
    exact ⟨by show Ending.returned (Value.int .u16 (bits .and .u16 u (mask wd))) = _; rw [Int.toNat_natCast, e1.out, E.out]; rfl, (by repeat (first | exact Below.refl _ _ | refine below_drewN ?_ _ | refine Below.alloc ?_ (by first | omega | (simp; done) | (simp; omega)) _ | refine Below.drew ?_ | refine Below.setCell ?_ (by first | omega | (simp; done) | (simp; omega)) _))⟩
  · have e1 := Lib.hid (show env.getD i 0 = 0 by rw [List.getD_eq_getElem?_getD, List.getElem?_eq_none (by omega)]; rfl)
    have hi' : env.length ≤ i := by omega
    clear hi
    generalize env.length = len at *
    clear h
    go_enter Tryd.func43, Tryd.ntmps43
    go_wp2
    go_quiet (fail)
    go_wp2
    go_ret
    exact ⟨by simp only [Int.toNat_natCast, e1.out]; unfold low; simp, (by repeat (first | exact Below.refl _ _ | refine below_drewN ?_ _ | refine Below.alloc ?_ (by first | omega | (simp; done) | (simp; omega)) _ | refine Below.drew ?_ | refine Below.setCell ?_ (by first | omega | (simp; done) | (simp; omega)) _))⟩
/-! ### What was reckoned is kept -/
theorem nodup_le : ∀ (N : Nat) (l : List Int), l.Nodup → (∀ x ∈ l, 1 ≤ x ∧ x ≤ N) → l.length ≤ N
  | 0, l, _, h => by
    cases l with
    | nil => simp
    | cons x r => have := h x (by simp); omega
  | N + 1, l, hn, h => by
    by_cases hm : ((N + 1 : Nat) : Int) ∈ l
    · have h1 := nodup_le N (l.erase ((N + 1 : Nat) : Int)) (hn.erase _) fun x hx => by
        have hx' := (List.Nodup.mem_erase_iff hn).1 hx
        have := h x hx'.2
        have := hx'.1
        omega
      rw [List.length_erase_of_mem hm] at h1
      omega
    · have := nodup_le N l hn fun x hx => by
        have h1 := h x hx
        have : x ≠ ((N + 1 : Nat) : Int) := fun e => hm (e ▸ hx)
        omega
      omega
def litI : Lit → Int | .int _ x => x | _ => 0
theorem own_tight {w : World} {b n : Nat} {D : DataW Unit} {ns : List Nd} {env : List Int} (h : w.ownsMap Tryd.prog 33 (plainElem Tryd.prog 24) b n D) (hd : SeenD D ns env) :
    w.ownsMap Tryd.prog 33 (plainElem Tryd.prog 24) b ns.length D := by
  obtain ⟨es', e', hp, hk⟩ := h.entries keyedT
  obtain ⟨es, clock, hb, F, hs, hD⟩ := h
  refine ⟨es, clock, hb, F, ?_, hD⟩
  have hl := length_read (P := Tryd.prog) (k := 33) (R0 := plainElem (H := Unit) Tryd.prog 24) es
  rw [hD] at e'
  injection e' with e'
  rw [e'] at hl
  rw [← hl]
  have key : ∀ p ∈ es', ∃ x, p.1 = .int .i64 x ∧ isT ns x := fun p hm => by
    obtain ⟨x, hx, ht, _⟩ := hd p.1 (by rw [hD, e', Maps.has_eq, List.any_eq_true]; exact ⟨p, hm, WideAt.sameKey_self (hk p hm)⟩)
    exact ⟨x, hx, ht⟩
  have := nodup_le ns.length (es'.map fun p => litI p.1) ?_ ?_
  · simpa using this
  · rw [List.nodup_iff_pairwise_ne, List.pairwise_map]
    refine List.Pairwise.imp_of_mem (fun {p q} hpm hqm hne => ?_) hp
    obtain ⟨x, hx, _⟩ := key p hpm
    obtain ⟨y, hy, _⟩ := key q hqm
    rw [hx, hy] at hne ⊢
    exact fun e => hne (congrArg (Lit.int .i64) (show x = y from e))
  · intro x hx
    obtain ⟨p, hpm, rfl⟩ := List.mem_map.1 hx
    obtain ⟨y, hy, ht⟩ := key p hpm
    rw [hy]; exact ht
theorem seen_put {D : DataW Unit} {ns : List Nd} {env : List Int} {x : Int} (hD : Maps.IsMap D) (h : SeenD D ns env) (hx : isT ns x) : SeenD (D.put (.int .i64 x) (.lit (.int .u16 (V ns env x)))) ns env := by
  intro k hk
  by_cases e : k = .int .i64 x
  · subst e
    exact ⟨x, rfl, hx, fun z => Maps.atKey_put_same hD (show WideAt.IsKeyLit (.int .i64 x) from trivial) _ z⟩
  · rw [Maps.has_put_other e] at hk
    obtain ⟨y, hy, ht, hz⟩ := h k hk
    exact ⟨y, hy, ht, fun z => (Maps.atKey_put_other e _ z).trans (hz z)⟩
theorem seen_none {ns : List Nd} {env : List Int} : SeenD (.map [] : DataW Unit) ns env := fun k h => by cases h

/-- The reckoning behind a store of its count. -/
theorem Ev.count {w : World} {eb ab : Nat} {ns : List Nd} {foot : Nat → Prop} {A : Option Addr} {cap : Nat} {env : List Int} {mo : Option Nat} (h : Ev w eb ab ns foot A cap env mo) (c : Int) :
    Ev (w.setCell ⟨eb, 2, none⟩ (.int .i64 c)) eb ab ns foot A cap env mo := by
  have far : ∀ b, b ≠ eb → (w.setCell ⟨eb, 2, none⟩ (.int .i64 c)).heap[b]? = w.heap[b]? := fun b hb => set_other (p := ⟨eb, 2, none⟩) hb
  have hs : (w.setCell ⟨eb, 2, none⟩ (.int .i64 c)).heap.size = w.heap.size := by simp [World.setCell]
  refine ⟨h.ar.keep (fun b hb => far b (fun e => h.nf (e ▸ hb))) (by omega), ?_, h.nf, h.env_.keep (fun a ha => far _ (h.nq a ha).1) (by omega), h.nq, fun b hb => ?_⟩
  · obtain ⟨c0, hc⟩ := h.blk
    exact ⟨c, hc.put 2 _⟩
  · obtain ⟨h1, D, ho, hd⟩ := h.seen b hb
    refine ⟨h1, D, ownsMap_same ho (far b ?_), hd⟩
    rintro rfl
    obtain ⟨c0, hc⟩ := h.blk
    obtain ⟨es, clock, hb', _⟩ := ho
    unfold Has at hc; rw [hc] at hb'; cases hb'
/-- .. behind a map that it makes. -/
theorem Ev.make {w : World} {eb ab : Nat} {ns : List Nd} {foot : Nat → Prop} {A : Option Addr} {cap : Nat} {env : List Int} (h : Ev w eb ab ns foot A cap env none) (g : Nat) (hg : g = w.heap.size) :
    Ev ((w.setCell ⟨eb, 3, none⟩ (.map (some g))).alloc (.map #[] 0)) eb ab ns foot A cap env (some g) := by
  subst hg
  have hlt := h.lt
  have hs : (w.setCell ⟨eb, 3, none⟩ (.map (some w.heap.size))).heap.size = w.heap.size := by simp [World.setCell]
  have far : ∀ b, b < w.heap.size → b ≠ eb → ((w.setCell ⟨eb, 3, none⟩ (.map (some w.heap.size))).alloc (.map #[] 0)).heap[b]? = w.heap[b]? := fun b hl hb => (alloc_other (by omega)).trans (set_other (p := ⟨eb, 3, none⟩) hb)
  have hs' : w.heap.size ≤ ((w.setCell ⟨eb, 3, none⟩ (.map (some w.heap.size))).alloc (.map #[] 0)).heap.size := by simp [hs]
  refine ⟨h.ar.keep (fun b hb => far b (h.ar.lt b hb) (fun e => h.nf (e ▸ hb))) hs', ?_, h.nf, h.env_.keep (fun a ha => far _ (h.env_.lt a ha) (h.nq a ha).1) hs', fun a ha => ⟨(h.nq a ha).1, ?_⟩, fun b hb => ?_⟩
  · obtain ⟨c0, hc⟩ := h.blk
    exact ⟨c0, (hc.put 3 _).same (alloc_other (by omega))⟩
  · have := h.env_.lt a ha
    simp; omega
  · injection hb with hb
    subst hb
    refine ⟨fun hf => ?_, .map [], ?_, seen_none⟩
    · have := h.ar.lt _ hf
      omega
    · have := World.ownsMap_made (H := Unit) (w.setCell ⟨eb, 3, none⟩ (.map (some w.heap.size))) Tryd.prog 33 (plainElem Tryd.prog 24)
      rw [hs] at this
      exact this.mono (Nat.zero_le _)
/-- .. behind a store into the map. -/
theorem Ev.store {w w' : World} {eb ab : Nat} {ns : List Nd} {foot : Nat → Prop} {A : Option Addr} {cap : Nat} {env : List Int} {b : Nat} (h : Ev w eb ab ns foot A cap env (some b)) {x : Int} {D : DataW Unit} (hx : isT ns x)
    (hM : Maps.IsMap D) (hd : SeenD D ns env) (ho : w'.ownsMap Tryd.prog 33 (plainElem Tryd.prog 24) b (ns.length + 1) (D.put (.int .i64 x) (.lit (.int .u16 (V ns env x))))) (hg : w.grownBy w' (some b)) :
    Ev w' eb ab ns foot A cap env (some b) := by
  have hb := (h.seen b rfl).1
  have far : ∀ k, k < w.heap.size → k ≠ b → w'.heap[k]? = w.heap[k]? := fun k hk hn => hg.block k hk (by simpa using hn)
  refine ⟨h.ar.keep (fun k hk => far k (h.ar.lt k hk) (fun e => hb (e ▸ hk))) hg.size, ?_, h.nf, h.env_.keep (fun a ha => far _ (h.env_.lt a ha) (fun e => (h.nq a ha).2 (by rw [e]))) hg.size, h.nq, fun b' hb' => ?_⟩
  · obtain ⟨c, hc⟩ := h.blk
    refine ⟨c, hc.same (far eb hc.lt ?_)⟩
    rintro rfl
    obtain ⟨_, D0, ho0, _⟩ := h.seen _ rfl
    obtain ⟨es, clock, hb', _⟩ := ho0
    unfold Has at hc; rw [hc] at hb'; cases hb'
  · injection hb' with hb'
    subst hb'
    have hs := seen_put hM hd hx
    exact ⟨hb, _, own_tight ho hs, hs⟩
def KeptV (w : World) (eb ab : Nat) (ns : List Nd) (foot : Nat → Prop) (A : Option Addr) (cap : Nat) (env : List Int) (mo : Option Nat) (w' : World) : Prop := ∃ mo', EvPost w eb ab ns foot A cap env mo w' mo'
set_option maxRecDepth 100000 in
theorem keep_any (w : World) (eb ab : Nat) (ns : List Nd) (foot : Nat → Prop) (A : Option Addr) (cap : Nat) (env : List Int) (mo : Option Nat) (x : Int) (h : Ev w eb ab ns foot A cap env mo) (hx : isT ns x) :
    Calls Tryd.prog 45 #[ptr eb, .int .i64 x, .int .u16 (V ns env x)] w fun e w' => e = .returned (.tuple #[]) ∧ KeptV w eb ab ns foot A cap env mo w' := by
  obtain ⟨c, hc⟩ := h.blk
  have c2 : w.cell? ⟨eb, 2, none⟩ = some (.int .i64 c) := hc.cell 2
  have c3 : w.cell? ⟨eb, 3, none⟩ = some (.map mo) := hc.cell 3
  have fr : ∀ i, w.frozen? ⟨eb, i, none⟩ = false := hc.free
  have hv := V_val h.ar.wf env hx
  have hsz := h.ar.sz
  have hxw : (Lit.int .i64 x).wf = true := WalkArith.wf_i64 (by unfold isT at hx; omega)
  have hvw : (Lit.int .u16 (V ns env x)).wf = true := WalkArith.wf_u16 ⟨hv.1, hv.2.2⟩
  have hval := plainElem_int (H := Unit) Tryd.underlying24 hvw
  generalize hV : V ns env x = v at *
  have HV := Lib.hid hV
  have H := Lib.hid h
  have HX := Lib.hid hx
  have hlt := h.lt
  clear hV h hx hc hv
  obtain ⟨c', hc'⟩ : ∃ c', wrap64 (c + 1) = c' := ⟨_, rfl⟩
  by_cases hcc : c' ≤ 64
  · clear hxw hvw hval
    go_enter Tryd.func45, Tryd.ntmps45
    go_wp2
    refine bodyPost_ret (results_none rfl _ _ _) rfl ⟨rfl, mo, (H.out).count _, (Kept.refl _ _).setCell (p := ⟨eb, 2, none⟩) (fun _ => .inl rfl) _, .inl rfl⟩
  · have hcc' : 64 < c' := by omega
    clear hcc
    have hkey : keyOf Tryd.prog 33 (.int .i64 x) = some (.int .i64 x) := Maps.keyOf_int_mk Tryd.underlying33 hxw
    have HK := Lib.hid hkey
    have HVAL := Lib.hid hval
    clear hkey hval hxw hvw
    have qm : ∀ (w : World) (r : Option Nat), (binOp .eql 71 (.map r) (.map none)).run Tryd.prog w = .ok (.bool r.isNone) w := fun w r => run_eql_map_nil w _ _ _ r Tryd.underlying71
    have hmm := @run_makeMap Tryd.prog
    have hsz2 : (w.setCell ⟨eb, 2, none⟩ (.int .i64 c')).heap.size = w.heap.size := by simp [World.setCell]
    have HSZ := Lib.hid hsz2
    clear hsz2
    rcases mo with _ | b
    · have E := Lib.hid ((H.out.count c').make w.heap.size HSZ.out.symm)
      have ho := World.ownsMap_made (H := Unit) ((w.setCell ⟨eb, 2, none⟩ (.int .i64 c')).setCell ⟨eb, 3, none⟩ (.map (some w.heap.size))) Tryd.prog 33 (plainElem Tryd.prog 24)
      rw [show ((w.setCell ⟨eb, 2, none⟩ (.int .i64 c')).setCell ⟨eb, 3, none⟩ (.map (some w.heap.size))).heap.size = w.heap.size from by simp [World.setCell]] at ho
      have HO := Lib.hid (ho.mono (n' := ns.length) (Nat.zero_le _))
      clear ho
      go_enter Tryd.func45, Tryd.ntmps45
      go_wp2_with (at_mapUpdate; refine wpList_mapUpdate_own _ rfl _ _ _ 71 rfl 33 24 keyedT Tryd.underlying71 _ w.heap.size ns.length (.map []) rfl HO.out (by unfold maxLen; omega) _ _ _ rfl rfl HK.out _ [] HVAL.out ?_; intro w1 hown1 hg1)
      go_end0
      rw [← HV.out] at hown1
      refine ⟨rfl, some w.heap.size, E.out.store HX.out ⟨_, rfl⟩ seen_none hown1 hg1, ?_, .inr ⟨_, rfl, Nat.le_refl _⟩⟩
      exact ((((Kept.refl _ w).setCell (p := ⟨eb, 2, none⟩) (fun _ => .inl rfl) _).setCell (p := ⟨eb, 3, none⟩) (fun _ => .inl rfl) _).alloc _).trans (Kept.of_grown (S := fun k => k = w.heap.size) hg1 (fun k e => by injection e with e; exact e.symm)) (fun b hb e => by omega)
    · obtain ⟨h1, D, ho, hd⟩ := H.out.seen b rfl
      have E := Lib.hid (H.out.count c')
      have hM := ho.isMap
      obtain ⟨_, D', ho', hd'⟩ := E.out.seen b rfl
      have HO := Lib.hid ho'
      have HD := Lib.hid hd'
      have hM' := Lib.hid ho'.isMap
      clear ho hd ho' hd' hM
      go_enter Tryd.func45, Tryd.ntmps45
      go_wp2_with (at_mapUpdate; refine wpList_mapUpdate_own _ rfl _ _ _ 71 rfl 33 24 keyedT Tryd.underlying71 _ b ns.length D' rfl HO.out (by unfold maxLen; omega) _ _ _ rfl rfl HK.out _ [] HVAL.out ?_; intro w1 hown1 hg1)
      go_end0
      rw [← HV.out] at hown1
      refine ⟨rfl, some b, E.out.store HX.out hM'.out HD.out hown1 hg1, ?_, .inl rfl⟩
      exact ((Kept.refl _ w).setCell (p := ⟨eb, 2, none⟩) (fun _ => .inl rfl) _).trans (Kept.of_grown (S := fun k => k = b) hg1 (fun k e => by injection e with e; exact e.symm)) (fun k hk e => .inr (congrArg some e.symm))
end Go.Proofs.YtgbmiphaabeodaaDoor
