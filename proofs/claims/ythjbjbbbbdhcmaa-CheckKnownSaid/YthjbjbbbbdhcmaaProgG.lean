/-
  Worlds that have grown, whatever the tape; a region whose calls make memory; a row of bytes of the call's own.
-/
import Derived.Test.YthjbjbbbbdhcmaaProgB
import Derived.OwnWalk
import Derived.Deep.AppendLies
import Derived.Lib.AppendStr
import Derived.Deep.RegionHeld3
namespace Go.Proofs.Ythjbjbbbbdhcmaa
open Go.ChangeShapes Go.WideShapes Go.ChangeAt Go.RowKit
set_option linter.unusedVariables false

theorem grown_block {W w' : World} (G : Grown W w') {b : Nat} (hb : b < W.heap.size) : w'.heap[b]? = W.heap[b]? := by
  obtain ⟨o, ho⟩ : ∃ o, W.heap[b]? = some o := ⟨_, Array.getElem?_eq_getElem hb⟩
  cases o with
  | cells c t fr => rw [ho]; exact grown_row G ho
  | map es c =>
    have k := G.1.2.2 b hb
    rw [ho] at k ⊢
    split at k
    case h_1 h1 _ => simp at h1
    case h_2 x e1 c1 e2 c2 h1 h2 =>
      simp only [Option.some.injEq, Obj.map.injEq] at h1
      obtain ⟨rfl, rfl⟩ := h1
      rcases k with k | ⟨rfl, rfl⟩
      · exact k.elim
      · exact h2
    case h_3 => exact k
  | _ =>
    have k := G.1.2.2 b hb
    rw [ho] at k ⊢
    split at k
    case h_1 h1 _ => simp at h1
    case h_2 h1 _ => simp at h1
    case h_3 => exact k
/-- What was there is as it was; of the tape nothing is said. -/
def Gw (W W' : World) : Prop := Below W.heap.size W { W' with tape := W.tape }
theorem Gw.refl (W : World) : Gw W W := Below.refl _ _
theorem Gw.below {W W' : World} (h : Gw W W') : Below W.heap.size W { W' with tape := W.tape } := h
theorem Gw.os {W W' : World} (h : Gw W W') : W'.os = W.os := h.below.os
theorem Gw.output {W W' : World} (h : Gw W W') : W'.output = W.output := h.below.output
theorem Gw.size {W W' : World} (h : Gw W W') : W.heap.size ≤ W'.heap.size := h.below.size
theorem Gw.block {W W' : World} (h : Gw W W') (k : Nat) (hk : k < W.heap.size) : W'.heap[k]? = W.heap[k]? := h.below.block k hk
theorem Grown.gw {W W' : World} (h : Grown W W') : Gw W W' := ⟨h.1.1, rfl, h.1.2.1, h.2.2, fun _ hk => grown_block h hk⟩
theorem Gw.trans {a b c : World} (h : Gw a b) (k : Gw b c) : Gw a c :=
  ⟨k.os.trans h.os, rfl, k.output.trans h.output, Nat.le_trans h.size k.size, fun i hi => (k.block i (Nat.lt_of_lt_of_le hi h.size)).trans (h.block i hi)⟩
theorem Gw.drew {a w : World} (h : Gw a w) : Gw a w.drew := ⟨h.os, rfl, h.output, h.size, h.block⟩
theorem Gw.alloc (w : World) (o : Obj) : Gw w (w.alloc o) :=
  ⟨rfl, rfl, rfl, by show w.heap.size ≤ (w.heap.push o).size; simp, fun k hk => Below.heap_alloc w o k hk⟩
theorem Gw.grown {a w w' : World} {row : Option Nat} (h : Gw a w) (hg : w.grownBy w' row) (hr : ∀ k, row = some k → a.heap.size ≤ k) : Gw a w' :=
  ⟨hg.os.trans h.os, rfl, hg.output.trans h.output, Nat.le_trans h.size hg.size, fun k hk => (hg.block k (Nat.lt_of_lt_of_le hk h.size) (fun e => by have := hr k e.symm; omega)).trans (h.block k hk)⟩
theorem lt_cell {w : World} {g i : Nat} {v : Value} (h : w.cell? ⟨g, i, none⟩ = some v) : g < w.heap.size := World.block_lt_of_cell? w _ h
theorem Gw.cell {W W' : World} (h : Gw W W') {g i : Nat} {v : Value} (hc : W.cell? ⟨g, i, none⟩ = some v) : W'.cell? ⟨g, i, none⟩ = some v := (World.cell?_of_block (h.block g (lt_cell hc))).trans hc
/-- A world in which S is so. -/
structure InP (S : World → Prop) where
  val : World
  ok : S val
theorem toP {S : World → Prop} (hS : ∀ a b, S a → Grown a b → S b) {f : FuncId} {args : Array Value} {v : Value} {n : InP S} (h : Calls Try.prog f args n.val fun e w' => e = .returned v ∧ Grown n.val w') :
    Calls Try.prog f args n.val fun e w'' => e = .returned v ∧ ∃ m : InP S, w'' = m.val :=
  h.mono fun _ w' ⟨he, G⟩ => ⟨he, ⟨w', hS _ _ n.ok G⟩, rfl⟩
theorem region_p {S : World → Prop} {id : Nat} {Q : Exit → Act → World → Prop} {a : Act} {w : World} {l : List Oper} (hm : Try.prog.follows .mixedOrders = true) (hB : Region.lexB .any l.toArray = true)
    (hs : S { w with drawn := w.drawn + 1 })
    (h : wpQuiet Try.prog l.toArray (fun w' => ∃ n : InP S, w' = n.val) (fun a' => ∀ w', (∃ n : InP S, w' = n.val) → Q .normal a' w') l a) : (Code.region id l.toArray true).wp Try.prog Q a w :=
  wp_region_quiet (C := fun w' => ∃ n : InP S, w' = n.val) hm hB ⟨⟨_, hs⟩, rfl⟩ (by simpa using h)
theorem post_kept {H : Type} {enc : TypeId × Value → H} {P : Program} {f : Func} {s : ChangeSpec} {apart fresh handsOn again : Bool} {W W' : World} {args : Array Value} {v : Value} {ds gs : List (DataW H)} {before pa pv : List MemPlace}
    (hW : DataW.Whole enc P f.params.toList s.vars apart W args.toList ds gs before) (hb : Gw W W')
    (hres : ∀ (b : Nat) (sp : Nat → Bool) (hd : Bool), DataW.TrodAll enc P W' b sp hd f.resultTypes.toList (v.resultList f.resultTypes.size) (s.fn H (ds ++ gs)).results [])
    (hargs : ∀ sp : Nat → Bool, (∀ p ∈ before, sp p.block = true) → DataW.TrodAll enc P W' 0 sp true f.params.toList args.toList (s.fn H (ds ++ gs)).args pa)
    (hvars : ∀ sp : Nat → Bool, (∀ p ∈ before, sp p.block = true) → DataW.TrodVars enc P W' sp s.vars (s.fn H (ds ++ gs)).vars pv) (hps : before = pa ++ pv)
    (hok : ∀ (j : Nat) (t : TypeId) (r : Value), f.resultTypes[j]? = some t → (v.resultList f.resultTypes.size)[j]? = some r → Value.okWide P W' .any 0 t r) : s.post enc P f apart fresh handsOn again W args v W' := by
  have lt : ∀ p ∈ before, p.block < W.heap.size := fun p hp => hW.lt p hp
  subst hps
  have Rall := hargs (fun _ => true) (fun _ _ => rfl)
  have Vall := hvars (fun _ => true) (fun _ _ => rfl)
  have Rold := hargs (fun b => decide (b < W.heap.size)) (fun p hp => decide_eq_true (lt p hp))
  have Vold := hvars (fun b => decide (b < W.heap.size)) (fun p hp => decide_eq_true (lt p hp))
  have places := hW
  obtain ⟨_, _, _, _, _, cold, single⟩ := places
  have fr : W.keptBut W' (· ∈ pa ++ pv) := Below.frame hb.below _
  have fz : ∀ a : Addr, a.block < W.heap.size → W'.frozen? a = W.frozen? a := fun a ha => Below.frozen hb.below ha
  exact ⟨ds, gs, pa ++ pv, [], pa, pv, hW, hres _ _ _, Rold, Vold, World.keptBut_mono (fun p hp => ⟨hp, .inr (List.mem_append.1 hp)⟩) fr, fun _ =>
    ⟨hok, _, _, ([] ++ pa) ++ pv, ⟨[] ++ pa, pv, trodAll_append Rall (hres _ _ _), Vall, rfl, fun b o hp => (fz _ (lt _ hp)).trans (cold b o hp), single⟩, fun p hp _ => hp⟩⟩
/-- Bytes as cells. -/
def u8s (l : List UInt8) : List Value := l.map fun b => .int .u8 (b.toNat : Int)
theorem u8s_len (l : List UInt8) : (u8s l).length = l.length := by simp [u8s]
theorem u8s_app (a b : List UInt8) : u8s (a ++ b) = u8s a ++ u8s b := by simp [u8s]
theorem strCells_eq (s : ByteArray) : Lib.strCells s = u8s s.data.toList := by
  simp [Lib.strCells, u8s]
/-- A row of bytes of the call's own: in blocks that are not w's. -/
structure BRel (w wr : World) (v : Value) (l : List UInt8) : Prop where
  own : wr.ownsRow w.heap.size 5 1 v l.length (u8s l)
  gw : Gw w wr
theorem BRel.next {w wr w' : World} {v : Value} {l : List UInt8} (h : BRel w wr v l) (g : Grown wr w') : BRel w w' v l := by
  refine ⟨⟨h.own.1, ?_⟩, h.gw.trans (Grown.gw g)⟩
  rcases h.own.2 with h0 | ⟨b, cap, cur, h0, h1, h2, h3⟩
  · exact .inl h0
  · exact .inr ⟨b, cap, cur, h0, h1, grown_row g h2, h3⟩
theorem BRel.drewN {w wr : World} {v : Value} {l : List UInt8} (h : BRel w wr v l) (n : Nat) : BRel w (wr.drewN n) v l := h.next (grown_drewN (Grown.refl wr) n)
theorem BRel.more {w wr wm w' : World} {v v' : Value} {l m : List UInt8} {n : Nat} (h : BRel w wr v l) (ho : w'.ownsRow w.heap.size 5 1 v' n (u8s l ++ u8s m)) (hn : n = l.length + m.length)
    (ha : Gw wr wm) (hg : wm.grownBy w' v.ownBlock) : BRel w w' v' (l ++ m) := by
  subst hn
  refine ⟨by rw [List.length_append, u8s_app]; exact ho, (h.gw.trans ha).grown hg fun k hk => ?_⟩
  rcases h.own.2 with ⟨h0, _⟩ | ⟨g', c, cur, h0, hb, _⟩
  · subst h0; simp [Value.ownBlock] at hk
  · subst h0; simp [Value.ownBlock] at hk; omega
theorem BRel.lit (w wr : World) (h : Gw w wr) (l : List UInt8) (hl : l.length ≤ maxLen) : BRel w (wr.alloc (.cells (u8s l).toArray 5)) (.slice (some ⟨wr.heap.size, 0, none⟩) l.length l.length) l :=
  ⟨by have := World.ownsRow_lit (e := 5) (size := 1) wr (u8s l).toArray l.length h.size hl (by simp [u8s]); simpa using this, h.trans (Gw.alloc _ _)⟩
theorem BRel.shape {w wr : World} {v : Value} {l : List UInt8} (h : BRel w wr v l) : ∃ A cap, v = .slice A l.length cap := by
  rcases h.own.2 with ⟨h0, h1⟩ | ⟨g', c, cur, h0, hb, _⟩
  · exact ⟨none, 0, by rw [h0, h1]⟩
  · exact ⟨_, _, h0⟩
theorem BRel.far {w wr : World} {v : Value} {l : List UInt8} (h : BRel w wr v l) {b : Nat} (hb : b < w.heap.size) : some b ≠ v.ownBlock := fun e => by
  have := (h.own.lt b e.symm).1
  omega
theorem step_append_string {P : Program} (w : World) {ops : Array Oper} {o : Oper} {a : Act} {K : Act → World → Prop} {Q : Exit → Act → World → Prop} {E : Prop} (hgd : o.guard = none) (sl x : Operand) (t u : TypeId)
    (ho : o.op = .call { callee := .builtin .append, args := #[sl, x], argTypes := #[t, u] })
    (base : Nat) (e : TypeId) (i : TypeInfo) (ht : P.underlying t = some (.slice e)) (hu : P.underlying u = some .string) (hi : P.info? e = some i) (hz : i.zero = some (.int .u8 0))
    (hsize : i.size = 1) (hby : i.bytes = 1)
    (v : Value) (n : Nat) (xs : List Value) (hs : a.eval sl = v) (hown : w.ownsRow base e 1 v n xs) (s : ByteArray) (hx : a.eval x = .string s)
    (h63 : n + s.size ≤ maxLen) (hbytes : n + s.size ≤ 140737488355328) (hbase : base ≤ w.heap.size)
    (h : ∀ v' w', w'.ownsRow base e 1 v' (n + s.size) (xs ++ Lib.strCells s) → w.grownBy w' v.ownBlock → (v' = .slice none 0 0 ↔ v = .slice none 0 0 ∧ s.size = 0) → K (a.put o.dst v') w') :
    if Region.wanted o (yielded ops a.tmps) = true then Oper.wp P o a w K Q else E := by
  have hw : Region.wanted o (yielded ops a.tmps) = true := by simp [Region.wanted, hgd]
  rw [if_pos hw]
  obtain ⟨v', w', hr, h2, h3, h4⟩ := Lib.run_append_own_string (P := P) w base t u o.type e i ht hu hi hz hsize hby v n xs hown s h63 hbytes hbase
  unfold Oper.wp execOp
  simp only [ho, resolve, invoke, builtin, Sem.run_bind, Sem.run_pure, Result.andThen_ok, List.map_toArray, List.map_cons, List.map_nil, hs, hx, hr]
  exact h v' w' h2 h3 h4
theorem infoU8 : (Try.prog.info? 5).map (fun i => (i.zero, i.size, i.bytes)) = some (some (.int .u8 0), 1, 1) := by kernel_rfl
theorem info_u8 : ∃ i, Try.prog.info? 5 = some i ∧ i.zero = some (.int .u8 0) ∧ i.size = 1 ∧ i.bytes = 1 := by
  have h := infoU8
  cases hi : Try.prog.info? 5 with
  | none => rw [hi] at h; simp at h
  | some i =>
    rw [hi] at h
    simp only [Option.map_some, Option.some.injEq, Prod.mk.injEq] at h
    exact ⟨i, rfl, h.1, h.2.1, h.2.2⟩
end Go.Proofs.Ythjbjbbbbdhcmaa
