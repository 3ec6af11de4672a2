/-
  Parts of the proof, joined: UnitP, UnitK.
-/
import Derived.Test.YtpmdnbdmocdngaaGreatMh03
import Derived.Test.YtpmdnbdmocdngaaGreatMh02
import Derived.Deep.AppendLies

namespace Go.Proofs.YtpmdnbdmocdngaaGreat
open Go.ChangeShapes Go.WideShapes Go.ChangeAt Go.RowKit Go.Sort Go.Proofs
set_option linter.unusedVariables false

/-- What Normal answers. -/
def NormPost (c : List Int) (w : World) (e : Ending) (w' : World) : Prop := ∃ A cap, e = .returned (.tuple #[.slice A (nrm c).1.length cap, .bool (nrm c).2]) ∧ SeqAt (Value.int .i64) w' A (nrm c).1 ∧ Below w.heap.size w w' ∧ ∀ a, A = some a → w.heap.size ≤ a.block
theorem nrm_yes {c : List Int} (h : taut (row c) = true) : nrm c = ([], true) := by unfold nrm; simp [h]
theorem nrm_no {c : List Int} (h : taut (row c) = false) : nrm c = (row c, false) := by unfold nrm; simp [h]
/-- No two neighbours among the first k stand against each other. -/
def Apart (s : List Int) (k : Nat) : Prop := ∀ (j : Nat) (x y : Int), j + 1 < k → s[j]? = some x → s[j + 1]? = some y → y ≠ -x
theorem Apart.more {s : List Int} {k : Nat} {x y : Int} (h : Apart s k) (k1 : 1 ≤ k) (hx : s[k - 1]? = some x) (hy : s[k]? = some y) (hn : y ≠ -x) : Apart s (k + 1) := by
  intro j x' y' hj h1 h2
  by_cases e : j = k - 1
  · subst e
    rw [hx] at h1; injection h1 with h1; subst h1
    rw [show k - 1 + 1 = k by omega, hy] at h2; injection h2 with h2; subst h2
    exact hn
  · exact h j x' y' (by omega) h1 h2
theorem Apart.taut {s : List Int} {k : Nat} (h : Apart s k) (hk : s.length ≤ k) : taut s = false := by
  cases ht : Go.Proofs.YtpmdnbdmocdngaaGreat.taut s
  · rfl
  · obtain ⟨i, x, y, h1, h2, h3⟩ := taut_iff.1 ht
    have := (List.getElem?_eq_some_iff.1 h2).1
    exact absurd h3 (h i x y (by omega) h1 h2)
theorem taut_of {s : List Int} {k : Nat} {x y : Int} (k1 : 1 ≤ k) (hx : s[k - 1]? = some x) (hy : s[k]? = some y) (he : y = -x) : taut s = true :=
  taut_iff.2 ⟨k - 1, x, y, hx, by rw [show k - 1 + 1 = k by omega]; exact hy, he⟩
theorem cmp_lays (blk off size : Nat) (w : World) : CmpLays1 Tryz.prog 106 #[] (Value.int .i64) cfM blk off size w :=
  fun m os dk hs x y => byNumber_any x y _
/-- The call's own row, sorted. -/
def SortPost (g n cap base : Nat) (l : List Int) (w w' : World) : Prop := w'.ownsRow base 3 1 (.slice (some ⟨g, 0, none⟩) n cap) n (ints l) ∧ Below base w w'
theorem own_block {w : World} {base g n cap : Nat} {e : TypeId} {l : List Int} (h : w.ownsRow base e 1 (.slice (some ⟨g, 0, none⟩) n cap) n (ints l)) : ∃ cur, base ≤ g ∧ w.heap[g]? = some (.cells cur e (0, 0)) ∧ n ≤ cap ∧ cap ≤ maxLen ∧ cur.size = cap * 1 ∧ cur.toList.take l.length = ints l ∧ n = l.length := by
  rcases h.2 with ⟨h0, _⟩ | ⟨g', c, cur, h0, hb, hg, h1, h2, h3, h4⟩
  · cases h0
  · injection h0 with h0 h5 h6
    injection h0 with h0; injection h0 with h0; subst h0; subst h6
    have hn : n = l.length := by have := h.1; simpa using this.symm
    exact ⟨cur, hb, hg, h1, h2, h3, by rw [← hn]; simpa using h4, hn⟩
theorem sort_any (w : World) (base g cap : Nat) (l : List Int) (hb : base ≤ w.heap.size) (h : w.ownsRow base 3 1 (.slice (some ⟨g, 0, none⟩) l.length cap) l.length (ints l)) (hl : l.length ≤ 100000) :
    Calls Tryz.prog 105 #[.slice (some ⟨g, 0, none⟩) l.length cap, .func (.func 106) #[] #[]] w fun e w' => e = .returned (.tuple #[]) ∧ SortPost g l.length cap base (l.mergeSort fun x y => !ltOf cfM y x) w w' := by
  obtain ⟨cur, hbg, hg, h1, h2, h3, h4, _⟩ := own_block h
  have hH : Holds (Value.int .i64) w g 0 l.toArray := holds_of_blockI hg (by rw [h4])
  have eg : ∀ args w, (callFunc 106 args).run Tryz.prog w = .ok (.enter 106 args) w := enters_of Tryz.func106 (by kernel_rfl) rfl
  have c := Tryz.slices_SortFunc_total (Value.int .i64) (fun _ => rfl) cfM swo 106 #[] g 0 cap l.toArray w eg (cmp_lays _ _ _ _) hH (lt_of_heap hg) (by simp; omega) cf_tot
  refine c.mono fun e w' ⟨he, n, os, hw⟩ => ⟨he, ?_, ?_⟩
  · rw [hw]
    exact ownsRow_sortedI (ss := l) (by simp) hbg hg h1 h2 h3
  · rw [hw]
    exact (Below.refl base w).grown (grownBy_sortedI _) hb (fun k hk => by injection hk with hk; omega)
theorem compact_any (w : World) (base g cap : Nat) (l : List Int) (hb : base ≤ w.heap.size) (h : w.ownsRow base 3 1 (.slice (some ⟨g, 0, none⟩) l.length cap) l.length (ints l)) (hl : l.length ≤ 100000) :
    Calls Tryz.prog 107 #[.slice (some ⟨g, 0, none⟩) l.length cap] w fun e w' => e = .returned (.slice (some ⟨g, 0, none⟩) (Lib.compact l).length cap) ∧ SeqAt (Value.int .i64) w' (some ⟨g, 0, none⟩) (Lib.compact l) ∧ Below base w w' := by
  obtain ⟨cur, hbg, hg, h1, h2, h3, h4, _⟩ := own_block h
  have hH : Holds (Value.int .i64) w g 0 l.toArray := holds_of_blockI hg (by rw [h4])
  have c := Tryz.slices_Compact_int g 0 cap l w hH (by omega) h1
  have hle := Lib.compact_length_le l
  refine c.mono fun e w' ⟨he, q, hw⟩ => ⟨he, ?_, ?_⟩
  · have ho := ownsRow_sortedI (n := q) (os := #[]) (ss := l) (ts := Lib.compact l ++ List.replicate (l.length - (Lib.compact l).length) 0) (by simp; omega) hbg hg h1 h2 h3
    rw [grow_empty, ← hw] at ho
    have := seq_of_own ho (Lib.compact l).length
    rwa [List.take_left] at this
  · rw [hw]
    have := grownBy_sortedI (w := w) (g := g) (n := q) (os := #[]) (Lib.compact l ++ List.replicate (l.length - (Lib.compact l).length) 0).toArray
    rw [grow_empty] at this
    exact (Below.refl base w).grown this hb (fun k hk => by injection hk with hk; omega)
theorem Below.draws {B : Nat} {a w : World} (h : Below B a w) (n : Nat) : Below B a (w.drewN n) := ⟨h.os, h.tape, h.output, h.size, h.block⟩
theorem add_at (g j : Nat) : (⟨g, 0, none⟩ : Addr).add j = ⟨g, j, none⟩ := by unfold Addr.add; split <;> simp_all
theorem lit_own {c : List Int} {w w' : World} {A : Option Addr} {n cap : Nat} {l : List Int} (h : LRel w w' 3 (.slice A n cap) (ints l)) (h0 : 0 < l.length) : n = l.length ∧ ∃ g, A = some ⟨g, 0, none⟩ ∧ w'.ownsRow w.heap.size 3 1 (.slice (some ⟨g, 0, none⟩) l.length cap) l.length (ints l) := by
  have ho := h.own
  rw [List.length_map] at ho
  rcases ho.2 with ⟨h1, h2⟩ | ⟨g, c2, cur, h1, _⟩
  · omega
  · injection h1 with h1 h2 h3
    subst h1; subst h2
    exact ⟨rfl, g, rfl, ho⟩
theorem look_step {s : List Int} {w W : World} {A : Option Addr} {j : Nat} (h : SeqAt (Value.int .i64) w A s) (hj : j + 1 < s.length) (q : Nat) (hW : W = w.drewN q) :
    ∃ a x y, A = some a ∧ s[j]? = some x ∧ s[j + 1]? = some y ∧ W.cell? (a.add j) = some (.int .i64 x) ∧ W.cell? (a.add (j + 1)) = some (.int .i64 y) := by
  obtain ⟨x, hx⟩ : ∃ x, s[j]? = some x := ⟨_, List.getElem?_eq_getElem (by omega)⟩
  obtain ⟨y, hy⟩ : ∃ y, s[j + 1]? = some y := ⟨_, List.getElem?_eq_getElem hj⟩
  obtain ⟨a, ha, hc⟩ := h.get j x hx
  obtain ⟨a', ha', hc'⟩ := h.get (j + 1) y hy
  rw [ha] at ha'; injection ha' with ha'; subst ha'
  exact ⟨a, x, y, ha, hx, hy, by rw [hW]; exact hc, by rw [hW]; exact hc'⟩
theorem own_new {w w' : World} {e : TypeId} {A : Option Addr} {n cap : Nat} {l : List Value} (h : LRel w w' e (.slice A n cap) l) : ∀ a, A = some a → w.heap.size ≤ a.block := by
  intro a ha
  subst ha
  rcases h.own.2 with ⟨h1, _⟩ | ⟨g, c2, cur, h1, hb, _⟩
  · cases h1
  · injection h1 with h1 _ _; injection h1 with h1; subst h1; exact hb
set_option maxHeartbeats 1600000 in
theorem normal_any (A : Option Addr) (c : List Int) (cap : Nat) (w : World) (hc : SeqAt (Value.int .i64) w A c) (hw : ∀ l ∈ c, Wf l) (hn : c.length ≤ 100000) :
    Calls Tryz.prog 72 #[.slice A c.length cap] w (NormPost c w) := by
  have KL := Lib.hid (literals_any A c cap w hc hw hn)
  have HW := Lib.hid (fun x (hx : x ∈ row c) => hw x (row_mem hx))
  have HL := Lib.hid (fun x (hx : x ∈ row c) => row_lit hx)
  have hfl : (c.filter lit).length ≤ 100000 := Nat.le_trans (List.length_filter_le _ _) hn
  have hrl : (row c).length ≤ 100000 := Nat.le_trans (row_len c) hn
  clear hc hw
  by_cases he : c.filter lit = []
  · have hrow : row c = [] := List.eq_nil_iff_forall_not_mem.2 fun x hx => by have := List.mem_filter.2 ⟨row_mem hx, row_lit hx⟩; rw [he] at this; cases this
    have HR := Lib.hid (show nrm c = ([], false) by unfold nrm; rw [hrow]; rfl)
    clear hrow
    have cs := fun (p : Option Addr) (cp : Nat) (W : World) => (Tryz.slices_SortFunc_none (α := Int) p cp (.func (.func 106) #[] #[]) W)
    have cc := fun (p : Option Addr) (cp : Nat) (W : World) => (Tryz.slices_Compact_int_empty p cp W)
    have HK := Lib.hid he
    clear he hfl
    go_enter Tryz.func72, Tryz.ntmps72
    go_wp2_with fail
    refine KL.out.mono ?_
    rintro e w1 ⟨B, bcap, rfl, R⟩
    rw [HK.out] at R ⊢
    have HB := Lib.hid R.below
    have HQ := Lib.hid (seq_own (xs := ([] : List Int)) R.own)
    have HN := Lib.hid (own_new R)
    clear R
    go_wp2_with fail
    refine (cs _ _ _).mono ?_
    rintro e w2 ⟨rfl, rfl⟩
    go_wp2_with fail
    refine (cc _ _ _).mono ?_
    rintro e w2 ⟨rfl, rfl⟩
    go_wp2_with fail
    refine wp_loop_rounds 1 ?_
    rw [rounds_succ]
    go_wp2_with fail
    go_ret2
    exact ⟨B, bcap, by rw [HR.out]; (first | done | rfl), by rw [HR.out]; exact HQ.out, HB.out, HN.out⟩
  · have HS := Lib.hid (srt c)
    have hne : 0 < (c.filter lit).length := List.length_pos_iff.2 he
    have HN := Lib.hid hne
    have HFL := Lib.hid hfl
    clear he hfl hne
    unfold LitPost at KL
    generalize c.filter lit = l at *
    go_enter Tryz.func72, Tryz.ntmps72
    go_wp2_with fail
    refine KL.out.mono ?_
    rintro e w1 ⟨B, bcap, rfl, R⟩
    have HB := Lib.hid R.below
    obtain ⟨_, g, rfl, ho⟩ := lit_own (c := c) R HN.out
    have c1 := sort_any w1 w.heap.size g bcap l R.below.size ho HFL.out
    have HG : Hid (w.heap.size ≤ g) := by obtain ⟨_, hb, _⟩ := own_block ho; exact hb
    clear R ho
    go_wp2_with fail
    refine c1.mono ?_
    rintro e w2 ⟨rfl, ho2, hb2⟩
    rw [← List.length_mergeSort (l := l) (le := fun x y => !ltOf cfM y x)] at ho2 ⊢
    have c2 := compact_any w2 w.heap.size g bcap _ (Nat.le_trans HB.out.size hb2.size) ho2 (by rw [List.length_mergeSort]; exact HFL.out)
    rw [HS.out] at c2
    have HB2 := Lib.hid (HB.out.trans hb2)
    clear c1 ho2 hb2
    generalize (l.mergeSort fun x y => !ltOf cfM y x).length = m at *
    go_wp2_with fail
    refine c2.mono ?_
    rintro e w3 ⟨rfl, hs3, hb3⟩
    have HQ := Lib.hid hs3
    have HB3 := Lib.hid (HB2.out.trans hb3)
    clear hs3 hb3 c2
    have HT := Lib.hid (fun h => nrm_yes (c := c) h)
    have HTN := Lib.hid (fun h => nrm_no (c := c) h)
    generalize row c = s at *
    go_wp2_with fail
    go_loopw [5] (fun i wr => ∃ j q : Nat, (j = 0 ∨ j < s.length) ∧ i = .int .i64 ((j : Int) + 1) ∧ Hid (wr = w3.drewN q) ∧ Hid (Apart s (j + 1))) (fun i _ => s.length + 1 - (intOf i).toNat)
    case atStart => exact ⟨0, 0, .inl rfl, rfl, rfl, fun j x y hj => by omega⟩
    case round =>
      obtain ⟨j, q, hj, rfl, hwr, H⟩ := hrel
      by_cases hlt : j + 1 < s.length
      · obtain ⟨a, x, y, ha, hx, hy, hcx, hcy⟩ := look_step HQ.out hlt q hwr.out
        injection ha with ha
        subst ha
        rw [add_at] at hcx hcy
        have hwy := HW.out y (List.mem_of_getElem? hy)
        have hly := (lit_iff hwy).1 (HL.out y (List.mem_of_getElem? hy))
        have y1 : -9223372036854775807 ≤ y := by have := hwy.1; omega
        have y2 : y ≤ 9223372036854775807 := hwy.2
        have w1 : IntKind.i64.wrap (-y) = -y := wrap_in (by omega) (by omega)
        have w2 : IntKind.i64.wrap ((j : Int) + 1 - 1) = (j : Int) := by rw [show (j : Int) + 1 - 1 = j by omega]; exact wrap_in (by omega) (by omega)
        have w4 : IntKind.i64.wrap (j : Int) = (j : Int) := wrap_in (by omega) (by omega)
        have i0 : (0 : Int) ≤ (j : Int) + 1 := by omega
        have i1 : (j : Int) + 1 < (s.length : Int) := by omega
        have i2 : (j : Int) < (s.length : Int) := by omega
        have i3 : ((j : Int) + 1).toNat = j + 1 := by omega
        by_cases e : y = -x
        · have HE := Lib.hid (HT.out (taut_of (k := j + 1) (by omega) hx hy e))
          have e1 : (x == -y) = true := by simp; omega
          clear hx hy e hj hly hwy
          go_wp2_with fail
          go_quiet (fail)
          go_wp2_with fail
          go_ret2
          exact ⟨none, 0, by rw [HE.out]; (first | done | rfl), by rw [HE.out]; exact SeqAt.nil _ _, by rw [hwr.out, World.drewN_drewN]; exact Below.draws HB3.out _, fun a ha => by cases ha⟩
        · have HE := Lib.hid (H.out.more (by omega) hx hy e)
          have e1 : (x == -y) = false := by simp; omega
          clear hx hy e hj hly hwy
          go_wp2_with fail
          go_quiet (fail)
          go_wp2_with fail
          go_roundw
          case rel => exact ⟨j + 1, q + nq, .inr hlt, by go_num, (show _ = _ from by rw [hwr.out, World.drewN_drewN]), HE.out⟩
          case measure => simp [intOf]; omega
      · have HE := Lib.hid (HTN.out (H.out.taut (by omega)))
        go_wp2_with fail
        go_ret2
        exact ⟨_, _, by rw [HE.out]; (first | done | rfl), by rw [HE.out, hwr.out]; exact HQ.out.keep (Below.draws (Below.refl _ _) q), by rw [hwr.out]; exact Below.draws HB3.out q, fun a ha => by injection ha with ha; subst ha; exact HG.out⟩
end Go.Proofs.YtpmdnbdmocdngaaGreat

namespace Go.Proofs.YtpmdnbdmocdngaaGreat
open Go.ChangeShapes Go.WideShapes Go.ChangeAt Go.RowKit
set_option linter.unusedVariables false

/-! ### Worlds that differ in some blocks -/
structure Kept (S : Nat → Prop) (w w' : World) : Prop where
  os : w'.os = w.os
  tape : w'.tape = w.tape
  output : w'.output = w.output
  size : w.heap.size ≤ w'.heap.size
  block : ∀ k, k < w.heap.size → ¬ S k → w'.heap[k]? = w.heap[k]?
/-- Parts of the chain (τ tells each block's) that change. -/
structure Step (R : Nat → Prop) (τ τ' : Nat → Nat) (w w' : World) : Prop where
  kept : Kept (fun b => R (τ b)) w w'
  tag : ∀ b, b < w.heap.size → τ' b = τ b
section
variable {R R' : Nat → Prop} {τ τ' τ'' : Nat → Nat} {w w' w'' : World}
theorem Step.refl (R : Nat → Prop) (τ : Nat → Nat) (w : World) : Step R τ τ w w := ⟨⟨rfl, rfl, rfl, Nat.le_refl _, fun _ _ _ => rfl⟩, fun _ _ => rfl⟩
theorem Step.trans (h : Step R τ τ' w w') (k : Step R τ' τ'' w' w'') : Step R τ τ'' w w'' :=
  ⟨⟨k.kept.os.trans h.kept.os, k.kept.tape.trans h.kept.tape, k.kept.output.trans h.kept.output, Nat.le_trans h.kept.size k.kept.size, fun b hb hn =>
    (k.kept.block b (Nat.lt_of_lt_of_le hb h.kept.size) (fun hs => hn (by rw [← h.tag b hb]; exact hs))).trans (h.kept.block b hb hn)⟩,
   fun b hb => (k.tag b (Nat.lt_of_lt_of_le hb h.kept.size)).trans (h.tag b hb)⟩
theorem Step.mono (h : Step R τ τ' w w') (k : ∀ r, R r → R' r) : Step R' τ τ' w w' := ⟨⟨h.kept.os, h.kept.tape, h.kept.output, h.kept.size, fun b hb hn => h.kept.block b hb fun hs => hn (k _ hs)⟩, h.tag⟩
theorem Step.of_below (R : Nat → Prop) (τ : Nat → Nat) (h : Below w.heap.size w w') : Step R τ τ w w' := ⟨⟨h.os, h.tape, h.output, h.size, fun k hk _ => h.block k hk⟩, fun _ _ => rfl⟩
theorem Step.of_grown {row : Option Nat} {r : Nat} {g : Nat} (h : w.grownBy w' row) (hr : ∀ k, row = some k → τ k = r) (hg : τ g = r ∨ w.heap.size ≤ g) (hR : R r) : Step R τ (fun b => if b = g then r else τ b) w w' :=
  ⟨⟨h.os, h.tape, h.output, h.size, fun k hk hn => h.block k hk fun e => hn (by rw [hr k e.symm]; exact hR)⟩, fun b hb => by
    by_cases e : b = g
    · subst e; rw [if_pos rfl]; rcases hg with hg | hg
      · exact hg.symm
      · omega
    · rw [if_neg e]⟩
theorem Step.set (p : Addr) (u : Value) (hR : R (τ p.block)) : Step R τ τ w (w.setCell p u) :=
  ⟨⟨rfl, rfl, rfl, by simp [World.setCell], fun k hk hn => Below.heap_setCell w p u k (fun e => hn (e ▸ hR))⟩, fun _ _ => rfl⟩
theorem Step.below {B : Nat} (h : Step R τ τ' w w') (hB : B ≤ w.heap.size) (hs : ∀ k, k < B → ¬ R (τ k)) : Below B w w' :=
  ⟨h.kept.os, h.kept.tape, h.kept.output, h.kept.size, fun k hk => h.kept.block k (Nat.lt_of_lt_of_le hk hB) (hs k hk)⟩
end

/-! ### Blocks, rows and clauses -/
def Blk (τ : Nat → Nat) (r : Nat) (w : World) (g : Nat) (t : TypeId) (cs : Array Value) : Prop := w.heap[g]? = some (.cells cs t (0, 0)) ∧ τ g = r
def Row (τ : Nat → Nat) (r : Nat) (w : World) (e : TypeId) (v : Value) (xs : List Value) : Prop := w.ownsRow 0 e 1 v xs.length xs ∧ ∀ g, v.ownBlock = some g → τ g = r
def Lit (τ : Nat → Nat) (w : World) (v : Value) (c : List Int) : Prop := ∃ A cap, v = .slice A c.length cap ∧ ∀ (i : Nat) (z : Int), c[i]? = some z → ∃ a, A = some a ∧ w.cell? (a.add i) = some (.int .i64 z) ∧ τ a.block = 7
section
variable {R : Nat → Prop} {τ τ' : Nat → Nat} {r : Nat} {w w' : World} {g : Nat} {t e : TypeId} {cs : Array Value} {v : Value} {xs : List Value} {c : List Int}
theorem Blk.lt (h : Blk τ r w g t cs) : g < w.heap.size := lt_of_heap h.1
theorem Blk.step (h : Blk τ r w g t cs) (k : Step R τ τ' w w') (hn : ¬ R r) : Blk τ' r w' g t cs := ⟨(k.kept.block g h.lt (by rw [h.2]; exact hn)).trans h.1, by rw [k.tag g h.lt, h.2]⟩
theorem Blk.cell (h : Blk τ r w g t cs) (i : Nat) : w.cell? ⟨g, i, none⟩ = cs[i]? := by unfold World.cell?; rw [h.1]; rfl
theorem Blk.free (h : Blk τ r w g t cs) (i : Nat) : w.frozen? ⟨g, i, none⟩ = false := by unfold World.frozen?; rw [h.1]; simp
theorem Blk.put (h : Blk τ r w g t cs) (i : Nat) (u : Value) : Blk τ r (w.setCell ⟨g, i, none⟩ u) g t (cs.setIfInBounds i u) := by
  refine ⟨?_, h.2⟩
  simp only [World.setCell, Array.getElem?_modify, h.1, if_true]
  simp
theorem Row.at (h : Row τ r w e v xs) : (v = .slice none 0 0 ∧ xs = []) ∨ ∃ g cap cur, v = .slice (some ⟨g, 0, none⟩) xs.length cap ∧ Blk τ r w g e cur ∧ xs.length ≤ cap ∧ cap ≤ 9223372036854775807 ∧ cur.size = cap ∧ cur.toList.take xs.length = xs := by
  rcases h.1.2 with ⟨h0, h1⟩ | ⟨g, cap, cur, h0, _, hg, h1, h2, h3, h4⟩
  · exact .inl ⟨h0, List.eq_nil_of_length_eq_zero h1⟩
  · refine .inr ⟨g, cap, cur, h0, ⟨hg, h.2 g (by rw [h0]; rfl)⟩, h1, by unfold maxLen at h2; exact h2, by omega, by rw [Nat.mul_one] at h4; exact h4⟩
theorem Row.mk' {cap : Nat} (hg : Blk τ r w g e cs) (h1 : xs.length ≤ cap) (h2 : cap ≤ 9223372036854775807) (h3 : cs.size = cap) (h4 : cs.toList.take xs.length = xs) : Row τ r w e (.slice (some ⟨g, 0, none⟩) xs.length cap) xs :=
  ⟨⟨by omega, .inr ⟨g, cap, cs, rfl, Nat.zero_le _, hg.1, h1, by unfold maxLen; exact h2, by omega, by rw [Nat.mul_one]; exact h4⟩⟩, fun k hk => by injection hk with hk; subst hk; exact hg.2⟩
theorem Row.step (h : Row τ r w e v xs) (k : Step R τ τ' w w') (hn : ¬ R r) : Row τ' r w' e v xs := by
  rcases h.at with ⟨h0, h1⟩ | ⟨g, cap, cur, h0, hb, h1, h2, h3, h4⟩
  · exact ⟨⟨by omega, .inl ⟨h0, by rw [h1]; rfl⟩⟩, fun g hg => by rw [h0] at hg; cases hg⟩
  · subst h0; exact Row.mk' (hb.step k hn) h1 h2 h3 h4
theorem Row.cells (h : Row τ r w e v xs) (i : Nat) (u : Value) (hu : xs[i]? = some u) : ∃ g cap, v = .slice (some ⟨g, 0, none⟩) xs.length cap ∧ τ g = r ∧ w.cell? ⟨g, i, none⟩ = some u ∧ w.frozen? ⟨g, i, none⟩ = false ∧ xs.length ≤ cap ∧ cap ≤ 9223372036854775807 := by
  have hi := (List.getElem?_eq_some_iff.1 hu).1
  rcases h.at with ⟨_, h1⟩ | ⟨g, cap, cur, h0, hb, h1, h2, h3, h4⟩
  · subst h1; simp at hi
  · refine ⟨g, cap, h0, hb.2, ?_, hb.free i, h1, h2⟩
    rw [hb.cell]
    rw [← h4, List.getElem?_take_of_lt hi] at hu
    simpa using hu
theorem Row.form (h : Row τ r w e v xs) : ∃ A cap, v = .slice A xs.length cap := by
  rcases h.at with ⟨h0, h1⟩ | ⟨g, cap, cur, h0, _⟩
  · exact ⟨none, 0, by rw [h0, h1]; rfl⟩
  · exact ⟨_, cap, h0⟩
theorem Row.store (h : Row τ r w e v xs) {cap : Nat} (hv : v = .slice (some ⟨g, 0, none⟩) xs.length cap) {i : Nat} (hi : i < xs.length) (u : Value) : Row τ r (w.setCell ⟨g, i, none⟩ u) e v (xs.set i u) := by
  rcases h.at with ⟨_, h1⟩ | ⟨g', cap', cur, h0, hb, h1, h2, h3, h4⟩
  · subst h1; simp at hi
  · rw [h0] at hv
    injection hv with hv _ _
    injection hv with hv; injection hv with hv; subst hv
    subst h0
    have := Row.mk' (xs := xs.set i u) (hb.put i u) (by rw [List.length_set]; exact h1) h2 (by simp; exact h3) (by
      rw [List.length_set, Array.toList_setIfInBounds, List.take_set, h4])
    rw [List.length_set] at this; exact this
theorem Lit.step (h : Lit τ w v c) (k : Step R τ τ' w w') (hn : ¬ R 7) : Lit τ' w' v c := by
  obtain ⟨A, cap, hv, hc⟩ := h
  refine ⟨A, cap, hv, fun i z hz => ?_⟩
  obtain ⟨a, ha, h1, h2⟩ := hc i z hz
  have hl := lt_of_cell h1
  rw [add_block] at hl
  exact ⟨a, ha, (World.cell?_of_block (by rw [add_block]; exact k.kept.block _ hl (by rw [h2]; exact hn))).trans h1, by rw [k.tag _ hl, h2]⟩
end

/-! ### The chain -/
abbrev nats (l : List Nat) : List Value := l.map fun (i : Nat) => Value.int .i64 (i : Int)
abbrev ptr (b : Nat) : Value := .pointer (some ⟨b, 0, none⟩)
structure Ck (B : Nat) (τ : Nat → Nat) (w : World) (p n : Nat) (cs : List (List Int)) (lf : List Int) (F : Nat → List Nat) (t hs : List Int) (pcs : Array Value) (cv lv wv tv hv : Value) : Prop where
  base : B ≤ w.heap.size
  low : ∀ b, b < B → τ b = 0
  blk : Blk τ 1 w p 119 pcs
  crow : ∃ cvs, Row τ 2 w 36 cv cvs ∧ cvs.length = cs.length ∧ ∀ (i : Nat) (c : List Int), cs[i]? = some c → ∃ v, cvs[i]? = some v ∧ Lit τ w v c
  lrow : Row τ 3 w 3 lv (ints lf)
  wrow : ∃ wb wvs, wv = .slice (some ⟨wb, 0, none⟩) (2 * n) (2 * n) ∧ Blk τ 4 w wb 36 wvs ∧ wvs.size = 2 * n ∧ ∀ q, q < 2 * n → ∃ v, wvs[q]? = some v ∧ Row τ (8 + q) w 3 v (nats (F q))
  trow : Row τ 5 w 3 tv (ints t)
  hrow : Row τ 6 w 3 hv (ints hs)
abbrev Ch (B : Nat) (τ : Nat → Nat) (w : World) (p n : Nat) (cs : List (List Int)) (lf : List Int) (F : Nat → List Nat) (t hs : List Int) (cv lv wv tv hv : Value) : Prop := Ck B τ w p n cs lf F t hs #[cv, lv, wv, tv, hv] cv lv wv tv hv
section
variable {R : Nat → Prop} {B : Nat} {τ τ' : Nat → Nat} {w w' : World} {p n : Nat} {cs : List (List Int)} {lf : List Int} {F : Nat → List Nat} {t hs : List Int} {cv lv wv tv hv : Value}
theorem Ck.step0 {pcs : Array Value} (h : Ck B τ w p n cs lf F t hs pcs cv lv wv tv hv) (k : Step R τ τ' w w') (hn : ∀ r, 1 ≤ r → ¬ R r) : Ck B τ' w' p n cs lf F t hs pcs cv lv wv tv hv := by
  refine ⟨Nat.le_trans h.base k.kept.size, fun b hb => by rw [k.tag b (Nat.lt_of_lt_of_le hb h.base), h.low b hb], h.blk.step k (hn _ (by omega)), ?_, h.lrow.step k (hn _ (by omega)), ?_, h.trow.step k (hn _ (by omega)), h.hrow.step k (hn _ (by omega))⟩
  · obtain ⟨cvs, h1, h2, h3⟩ := h.crow
    exact ⟨cvs, h1.step k (hn _ (by omega)), h2, fun i c hc => by obtain ⟨v, a, b⟩ := h3 i c hc; exact ⟨v, a, b.step k (hn _ (by omega))⟩⟩
  · obtain ⟨wb, wvs, h1, h2, h3, h4⟩ := h.wrow
    exact ⟨wb, wvs, h1, h2.step k (hn _ (by omega)), h3, fun q hq => by obtain ⟨v, a, b⟩ := h4 q hq; exact ⟨v, a, b.step k (hn _ (by omega))⟩⟩
theorem Ck.below {pcs : Array Value} (h : Ck B τ w p n cs lf F t hs pcs cv lv wv tv hv) (k : Below w.heap.size w w') : Ck B τ w' p n cs lf F t hs pcs cv lv wv tv hv :=
  h.step0 (R := fun _ => False) (Step.of_below _ τ k) (fun _ _ h => h)
/-- A truth is written. -/
theorem Ch.setT (h : Ch B τ w p n cs lf F t hs cv lv wv tv hv) {g cap i : Nat} (hv' : tv = .slice (some ⟨g, 0, none⟩) t.length cap) (hi : i < t.length) (x : Int) :
    Ch B τ (w.setCell ⟨g, i, none⟩ (.int .i64 x)) p n cs lf F (t.set i x) hs cv lv wv tv hv ∧ Step (fun r => r = 5) τ τ w (w.setCell ⟨g, i, none⟩ (.int .i64 x)) := by
  have hg : τ g = 5 := h.trow.2 g (by rw [hv']; rfl)
  have k : Step (fun r => r = 5) τ τ w (w.setCell ⟨g, i, none⟩ (.int .i64 x)) := Step.set _ _ hg
  refine ⟨⟨by simpa [World.setCell] using h.base, h.low, h.blk.step k (by decide), ?_, h.lrow.step k (by decide), ?_, ?_, h.hrow.step k (by decide)⟩, k⟩
  · obtain ⟨cvs, h1, h2, h3⟩ := h.crow
    exact ⟨cvs, h1.step k (by decide), h2, fun i c hc => by obtain ⟨v, a, b⟩ := h3 i c hc; exact ⟨v, a, b.step k (by decide)⟩⟩
  · obtain ⟨wb, wvs, h1, h2, h3, h4⟩ := h.wrow
    exact ⟨wb, wvs, h1, h2.step k (by decide), h3, fun q hq => by obtain ⟨v, a, b⟩ := h4 q hq; exact ⟨v, a, b.step k (by omega)⟩⟩
  · have := h.trow.store (g := g) (cap := cap) (by rw [hv', List.length_map]) (i := i) (by rw [List.length_map]; exact hi) (.int .i64 x)
    unfold ints at this ⊢
    rw [List.map_set]; exact this
/-- What is left of a clause is written. -/
theorem Ch.setL (h : Ch B τ w p n cs lf F t hs cv lv wv tv hv) {g cap i : Nat} (hv' : lv = .slice (some ⟨g, 0, none⟩) lf.length cap) (hi : i < lf.length) (x : Int) :
    Ch B τ (w.setCell ⟨g, i, none⟩ (.int .i64 x)) p n cs (lf.set i x) F t hs cv lv wv tv hv ∧ Step (fun r => r = 3) τ τ w (w.setCell ⟨g, i, none⟩ (.int .i64 x)) := by
  have hg : τ g = 3 := h.lrow.2 g (by rw [hv']; rfl)
  have k : Step (fun r => r = 3) τ τ w (w.setCell ⟨g, i, none⟩ (.int .i64 x)) := Step.set _ _ hg
  refine ⟨⟨by simpa [World.setCell] using h.base, h.low, h.blk.step k (by decide), ?_, ?_, ?_, h.trow.step k (by decide), h.hrow.step k (by decide)⟩, k⟩
  · obtain ⟨cvs, h1, h2, h3⟩ := h.crow
    exact ⟨cvs, h1.step k (by decide), h2, fun i c hc => by obtain ⟨v, a, b⟩ := h3 i c hc; exact ⟨v, a, b.step k (by decide)⟩⟩
  · have := h.lrow.store (g := g) (cap := cap) (by rw [hv', List.length_map]) (i := i) (by rw [List.length_map]; exact hi) (.int .i64 x)
    unfold ints at this ⊢
    rw [List.map_set]; exact this
  · obtain ⟨wb, wvs, h1, h2, h3, h4⟩ := h.wrow
    exact ⟨wb, wvs, h1, h2.step k (by decide), h3, fun q hq => by obtain ⟨v, a, b⟩ := h4 q hq; exact ⟨v, a, b.step k (by omega)⟩⟩
/-- One more literal holds: the row grown, then the chain's own field. -/
theorem Ch.addH (h : Ch B τ w p n cs lf F t hs cv lv wv tv hv) {g cap : Nat} {x : Int} (hg : w.grownBy w' hv.ownBlock) (hown : w'.ownsRow 0 3 1 (.slice (some ⟨g, 0, none⟩) (hs.length + 1) cap) (hs.length + 1) (ints hs ++ [.int .i64 x])) (hat : hv.ownBlock = some g ∨ w.heap.size ≤ g) (hlt : g < w'.heap.size) :
    ∃ τ', Ch B τ' (w'.setCell ⟨p, 4, none⟩ (.slice (some ⟨g, 0, none⟩) (hs.length + 1) cap)) p n cs lf F t (hs ++ [x]) cv lv wv tv (.slice (some ⟨g, 0, none⟩) (hs.length + 1) cap) ∧ Step (fun r => r = 1 ∨ r = 6) τ τ' w (w'.setCell ⟨p, 4, none⟩ (.slice (some ⟨g, 0, none⟩) (hs.length + 1) cap)) := by
  have k1 : Step (fun r => r = 6) τ (fun b => if b = g then 6 else τ b) w w' := Step.of_grown hg (fun k hk => h.hrow.2 k hk) (hat.imp (fun e => h.hrow.2 g e) id) rfl
  have hp := h.blk.step k1 (by decide)
  have k2 : Step (fun r => r = 1) (fun b => if b = g then 6 else τ b) (fun b => if b = g then 6 else τ b) w' (w'.setCell ⟨p, 4, none⟩ (.slice (some ⟨g, 0, none⟩) (hs.length + 1) cap)) := Step.set _ _ hp.2
  have k : Step (fun r => r = 1 ∨ r = 6) τ (fun b => if b = g then 6 else τ b) w (w'.setCell ⟨p, 4, none⟩ (.slice (some ⟨g, 0, none⟩) (hs.length + 1) cap)) := (k1.mono (fun r h => .inr h)).trans (k2.mono (fun r h => .inl h))
  have r1 : Row (fun b => if b = g then 6 else τ b) 6 w' 3 (.slice (some ⟨g, 0, none⟩) (hs.length + 1) cap) (ints (hs ++ [x])) := ⟨by
    have e : (ints (hs ++ [x])).length = hs.length + 1 := by simp
    rw [e]; unfold ints at hown ⊢; rw [List.map_append]; exact hown, fun b hb => by injection hb with hb; subst hb; simp⟩
  refine ⟨_, ⟨Nat.le_trans h.base k.kept.size, fun b hb => by rw [k.tag b (Nat.lt_of_lt_of_le hb h.base), h.low b hb], ?_, ?_, h.lrow.step k (by decide), ?_, h.trow.step k (by decide), r1.step k2 (by decide)⟩, k⟩
  · exact hp.put 4 _
  · obtain ⟨cvs, h1, h2, h3⟩ := h.crow
    exact ⟨cvs, h1.step k (by decide), h2, fun i c hc => by obtain ⟨v, a, b⟩ := h3 i c hc; exact ⟨v, a, b.step k (by decide)⟩⟩
  · obtain ⟨wb, wvs, h1, h2, h3, h4⟩ := h.wrow
    exact ⟨wb, wvs, h1, h2.step k (by decide), h3, fun q hq => by obtain ⟨v, a, b⟩ := h4 q hq; exact ⟨v, a, b.step k (by omega)⟩⟩
/-- The three rows that adding grows; the chain's own fields are written behind. -/
theorem Ck.appC {pcs : Array Value} (h : Ck B τ w p n cs lf F t hs pcs cv lv wv tv hv) {cvs : List Value} {v : Value} {c : List Int} {g cap : Nat} (hl : Lit τ w v c) (hcl : cvs.length = cs.length) (hcs : ∀ (i : Nat) (c : List Int), cs[i]? = some c → ∃ v, cvs[i]? = some v ∧ Lit τ w v c)
    (hr : Row τ 2 w 36 cv cvs) (hg : w.grownBy w' cv.ownBlock) (hown : w'.ownsRow 0 36 1 (.slice (some ⟨g, 0, none⟩) (cs.length + 1) cap) (cs.length + 1) (cvs ++ [v])) (hat : cv.ownBlock = some g ∨ w.heap.size ≤ g) :
    ∃ τ', Ck B τ' w' p n (cs ++ [c]) lf F t hs pcs (.slice (some ⟨g, 0, none⟩) (cs.length + 1) cap) lv wv tv hv ∧ Step (fun r => r = 2) τ τ' w w' := by
  have k : Step (fun r => r = 2) τ (fun b => if b = g then 2 else τ b) w w' := Step.of_grown hg (fun k hk => hr.2 k hk) (hat.imp (fun e => hr.2 g e) id) rfl
  refine ⟨_, ⟨Nat.le_trans h.base k.kept.size, fun b hb => by rw [k.tag b (Nat.lt_of_lt_of_le hb h.base), h.low b hb], h.blk.step k (by decide), ⟨cvs ++ [v], ⟨by rw [show (cvs ++ [v]).length = cs.length + 1 by simp [hcl]]; exact hown, fun b hb => by injection hb with hb; subst hb; simp⟩, by simp [hcl], fun i d hd => ?_⟩, h.lrow.step k (by decide), ?_, h.trow.step k (by decide), h.hrow.step k (by decide)⟩, k⟩
  · by_cases hi : i < cs.length
    · rw [List.getElem?_append_left hi] at hd
      obtain ⟨u, hu, hlu⟩ := hcs i d hd
      exact ⟨u, by rw [List.getElem?_append_left (by omega)]; exact hu, hlu.step k (by decide)⟩
    · have hi2 := (List.getElem?_eq_some_iff.1 hd).1
      simp at hi2
      obtain rfl : i = cs.length := by omega
      simp at hd; subst hd
      exact ⟨v, by rw [← hcl]; simp, hl.step k (by decide)⟩
  · obtain ⟨wb, wvs, h1, h2, h3, h4⟩ := h.wrow
    exact ⟨wb, wvs, h1, h2.step k (by decide), h3, fun q hq => by obtain ⟨v, a, b⟩ := h4 q hq; exact ⟨v, a, b.step k (by omega)⟩⟩
theorem Ck.appL {pcs : Array Value} (h : Ck B τ w p n cs lf F t hs pcs cv lv wv tv hv) {x : Int} {g cap : Nat}
    (hg : w.grownBy w' lv.ownBlock) (hown : w'.ownsRow 0 3 1 (.slice (some ⟨g, 0, none⟩) (lf.length + 1) cap) (lf.length + 1) (ints lf ++ [.int .i64 x])) (hat : lv.ownBlock = some g ∨ w.heap.size ≤ g) :
    ∃ τ', Ck B τ' w' p n cs (lf ++ [x]) F t hs pcs cv (.slice (some ⟨g, 0, none⟩) (lf.length + 1) cap) wv tv hv ∧ Step (fun r => r = 3) τ τ' w w' := by
  have k : Step (fun r => r = 3) τ (fun b => if b = g then 3 else τ b) w w' := Step.of_grown hg (fun k hk => h.lrow.2 k hk) (hat.imp (fun e => h.lrow.2 g e) id) rfl
  refine ⟨_, ⟨Nat.le_trans h.base k.kept.size, fun b hb => by rw [k.tag b (Nat.lt_of_lt_of_le hb h.base), h.low b hb], h.blk.step k (by decide), ?_, ⟨by rw [show (ints (lf ++ [x])).length = lf.length + 1 by simp]; unfold ints at hown ⊢; rw [List.map_append]; exact hown, fun b hb => by injection hb with hb; subst hb; simp⟩, ?_, h.trow.step k (by decide), h.hrow.step k (by decide)⟩, k⟩
  · obtain ⟨cvs, h1, h2, h3⟩ := h.crow
    exact ⟨cvs, h1.step k (by decide), h2, fun i c hc => by obtain ⟨v, a, b⟩ := h3 i c hc; exact ⟨v, a, b.step k (by decide)⟩⟩
  · obtain ⟨wb, wvs, h1, h2, h3, h4⟩ := h.wrow
    exact ⟨wb, wvs, h1, h2.step k (by decide), h3, fun q hq => by obtain ⟨v, a, b⟩ := h4 q hq; exact ⟨v, a, b.step k (by omega)⟩⟩
theorem Ck.setP {pcs : Array Value} (h : Ck B τ w p n cs lf F t hs pcs cv lv wv tv hv) (k : Nat) (u : Value) : Ck B τ (w.setCell ⟨p, k, none⟩ u) p n cs lf F t hs (pcs.setIfInBounds k u) cv lv wv tv hv ∧ Step (fun r => r = 1) τ τ w (w.setCell ⟨p, k, none⟩ u) := by
  have s : Step (fun r => r = 1) τ τ w (w.setCell ⟨p, k, none⟩ u) := Step.set _ _ h.blk.2
  refine ⟨⟨Nat.le_trans h.base s.kept.size, h.low, h.blk.put k u, ?_, h.lrow.step s (by decide), ?_, h.trow.step s (by decide), h.hrow.step s (by decide)⟩, s⟩
  · obtain ⟨cvs, h1, h2, h3⟩ := h.crow
    exact ⟨cvs, h1.step s (by decide), h2, fun i c hc => by obtain ⟨v, a, b⟩ := h3 i c hc; exact ⟨v, a, b.step s (by decide)⟩⟩
  · obtain ⟨wb, wvs, h1, h2, h3, h4⟩ := h.wrow
    exact ⟨wb, wvs, h1, h2.step s (by decide), h3, fun q hq => by obtain ⟨v, a, b⟩ := h4 q hq; exact ⟨v, a, b.step s (by omega)⟩⟩
/-- One more clause has a literal: its row grown, then the row's own place. -/
theorem Ck.appW {pcs : Array Value} (h : Ck B τ w p n cs lf F t hs pcs cv lv wv tv hv) {wb q g cap i : Nat} {A : Option Addr} {c0 : Nat} (hwv : wv = .slice (some ⟨wb, 0, none⟩) (2 * n) (2 * n)) (hq : q < 2 * n) (hc : w.cell? ⟨wb, q, none⟩ = some (.slice A (F q).length c0))
    (hg : w.grownBy w' (Value.slice A (F q).length c0).ownBlock) (hown : w'.ownsRow 0 3 1 (.slice (some ⟨g, 0, none⟩) ((F q).length + 1) cap) ((F q).length + 1) (nats (F q) ++ [.int .i64 (i : Nat)])) (hat : (Value.slice A (F q).length c0).ownBlock = some g ∨ w.heap.size ≤ g) :
    (w'.cell? ⟨p, 0, none⟩ = w.cell? ⟨p, 0, none⟩ ∧ w'.cell? ⟨p, 2, none⟩ = w.cell? ⟨p, 2, none⟩ ∧ w'.cell? ⟨wb, q, none⟩ = w.cell? ⟨wb, q, none⟩ ∧ w'.frozen? ⟨wb, q, none⟩ = false) ∧
    ∃ τ', Ck B τ' (w'.setCell ⟨wb, q, none⟩ (.slice (some ⟨g, 0, none⟩) ((F q).length + 1) cap)) p n cs lf (fun k => if k = q then F q ++ [i] else F k) t hs pcs cv lv wv tv hv ∧ Step (fun r => r = 4 ∨ r = 8 + q) τ τ' w (w'.setCell ⟨wb, q, none⟩ (.slice (some ⟨g, 0, none⟩) ((F q).length + 1) cap)) := by
  obtain ⟨wb', wvs, h1, h2, h3, h4⟩ := h.wrow
  obtain ⟨v, hv, hr⟩ := h4 q hq
  rw [h1] at hwv
  injection hwv with hwv _ _
  injection hwv with hwv; injection hwv with hwv; subst hwv
  rw [h2.cell, hv] at hc
  injection hc with hc
  subst hc
  have k1 : Step (fun r => r = 8 + q) τ (fun b => if b = g then 8 + q else τ b) w w' := Step.of_grown hg (fun k hk => hr.2 k hk) (hat.imp (fun e => hr.2 g e) id) rfl
  have hb := h2.step k1 (by omega)
  have hp := h.blk.step k1 (by omega)
  have k2 : Step (fun r => r = 4) (fun b => if b = g then 8 + q else τ b) (fun b => if b = g then 8 + q else τ b) w' (w'.setCell ⟨wb', q, none⟩ (.slice (some ⟨g, 0, none⟩) ((F q).length + 1) cap)) := Step.set _ _ hb.2
  have k := (k1.mono (R' := fun r => r = 4 ∨ r = 8 + q) (fun r h => .inr h)).trans (k2.mono (fun r h => .inl h))
  refine ⟨⟨by rw [hp.cell, h.blk.cell], by rw [hp.cell, h.blk.cell], by rw [hb.cell, h2.cell], hb.free q⟩, _, ⟨Nat.le_trans h.base k.kept.size, fun b hb => by rw [k.tag b (Nat.lt_of_lt_of_le hb h.base), h.low b hb], h.blk.step k (by omega), ?_, h.lrow.step k (by omega), ⟨wb', wvs.setIfInBounds q _, h1, hb.put q _, by simp [h3], fun q' hq' => ?_⟩, h.trow.step k (by omega), h.hrow.step k (by omega)⟩, k⟩
  · obtain ⟨cvs, h1, h2, h3⟩ := h.crow
    exact ⟨cvs, h1.step k (by omega), h2, fun i c hc => by obtain ⟨v, a, b⟩ := h3 i c hc; exact ⟨v, a, b.step k (by omega)⟩⟩
  · by_cases e : q' = q
    · subst e
      refine ⟨_, Array.getElem?_setIfInBounds_self_of_lt (by omega), ?_⟩
      simp only [if_true]
      have r1 : Row (fun b => if b = g then 8 + q' else τ b) (8 + q') w' 3 (.slice (some ⟨g, 0, none⟩) ((F q').length + 1) cap) (nats (F q' ++ [i])) := ⟨by
        rw [show (nats (F q' ++ [i])).length = (F q').length + 1 by simp]; unfold nats at hown ⊢; rw [List.map_append]; exact hown, fun b hb => by injection hb with hb; subst hb; simp⟩
      exact r1.step k2 (by omega)
    · obtain ⟨v', a, b⟩ := h4 q' hq'
      refine ⟨v', by rw [Array.getElem?_setIfInBounds_ne (fun e' => e e'.symm)]; exact a, ?_⟩
      simp only [if_neg e]
      exact b.step k (by omega)
end
end Go.Proofs.YtpmdnbdmocdngaaGreat
