/-
  Parts of the proof, joined: DpllLn, DpllLo.
-/
import Derived.Test.YtcebpbjpbnfacaaGreatMg43

/-
  Numbers turned round and truths turned over: as many rows of truths as before. Plain mathematics.
-/
namespace Go.Proofs.YtcebpbjpbnfacaaGreat
set_option linter.unusedVariables false
set_option linter.unusedSimpArgs false

theorem inj_le {α : Type} [DecidableEq α] (T : α → α) : ∀ (L M : List α), L.Nodup → (∀ a ∈ L, ∀ b ∈ L, T a = T b → a = b) → (∀ a ∈ L, T a ∈ M) → L.length ≤ M.length
  | [], M, _, _, _ => Nat.zero_le _
  | a :: L, M, hn, hi, hm => by
    have ha := hm a (by simp)
    have hn2 := List.nodup_cons.1 hn
    have ih := inj_le T L (M.erase (T a)) hn2.2 (fun x hx y hy => hi x (by simp [hx]) y (by simp [hy])) (fun x hx => by
      refine (List.mem_erase_of_ne (fun e => ?_)).2 (hm x (by simp [hx]))
      have := hi x (by simp [hx]) a (by simp) e
      subst this; exact hn2.1 hx)
    rw [List.length_erase_of_mem ha] at ih
    have : 0 < M.length := List.length_pos_of_mem ha
    rw [List.length_cons]; omega
theorem turned_many {n : Nat} (T : List Bool → List Bool) (p : List Bool → Bool) (hl : ∀ bs, bs.length = n → (T bs).length = n) (hi : ∀ a b : List Bool, a.length = n → b.length = n → T a = T b → a = b) :
    ((allB n).filter fun bs => p (T bs)).length = ((allB n).filter p).length := by
  have one : ∀ q : List Bool → Bool, ((allB n).filter fun bs => q (T bs)).length ≤ ((allB n).filter q).length := fun q =>
    inj_le T _ _ ((allB_nodup n).sublist List.filter_sublist) (fun a ha b hb e => hi a b (mem_allB.1 (List.mem_filter.1 ha).1) (mem_allB.1 (List.mem_filter.1 hb).1) e) (fun a ha => by
      have h := List.mem_filter.1 ha
      exact List.mem_filter.2 ⟨mem_allB.2 (hl a (mem_allB.1 h.1)), h.2⟩)
  have h1 := one p
  have h2 := one fun bs => !p bs
  have s1 : ((allB n).filter fun _ => true).length = ((allB n).filter p).length + ((allB n).filter fun bs => !p bs).length := filter_split (fun _ => true) p (allB n)
  have s2 : ((allB n).filter fun _ => true).length = ((allB n).filter fun bs => p (T bs)).length + ((allB n).filter fun bs => !p (T bs)).length := filter_split (fun _ => true) (fun bs => p (T bs)) (allB n)
  omega
/-- The number that stands for a literal's number. -/
def rnv (n : Nat) (l : Int) : Int := (n : Int) + 1 - numb l
/-- The literal that stands for a literal. -/
def rn (n : Nat) (fl : Nat → Bool) (l : Int) : Int := if decide (0 < l) = fl (rnv n l).toNat then -(rnv n l) else rnv n l
/-- The row of truths that stands for a row. -/
def tw (n : Nat) (fl : Nat → Bool) (bs : List Bool) : List Bool := (List.range n).map fun i => bs[n - 1 - i]?.getD false != fl (n - i)
theorem tw_len {n : Nat} {fl : Nat → Bool} {bs : List Bool} : (tw n fl bs).length = n := by simp [tw]
theorem tw_get {n : Nat} {fl : Nat → Bool} {bs : List Bool} {i : Nat} (h : i < n) : (tw n fl bs)[i]? = some (bs[n - 1 - i]?.getD false != fl (n - i)) := by
  unfold tw
  rw [List.getElem?_map, List.getElem?_range h]; rfl
theorem tw_inj {n : Nat} {fl : Nat → Bool} {a b : List Bool} (ha : a.length = n) (hb : b.length = n) (h : tw n fl a = tw n fl b) : a = b := by
  refine List.ext_getElem? fun j => ?_
  by_cases hj : j < n
  · have h1 : (tw n fl a)[n - 1 - j]? = (tw n fl b)[n - 1 - j]? := by rw [h]
    rw [tw_get (by omega), tw_get (by omega), show n - 1 - (n - 1 - j) = j by omega] at h1
    injection h1 with h1
    obtain ⟨x, hx⟩ : ∃ x, a[j]? = some x := ⟨_, List.getElem?_eq_getElem (by omega)⟩
    obtain ⟨y, hy⟩ : ∃ y, b[j]? = some y := ⟨_, List.getElem?_eq_getElem (by omega)⟩
    rw [hx, hy] at h1 ⊢
    simp only [Option.getD_some] at h1
    congr 1
    revert h1; cases x <;> cases y <;> cases fl (n - (n - 1 - j)) <;> simp
  · rw [List.getElem?_eq_none (by omega), List.getElem?_eq_none (by omega)]
theorem ok_lit {n : Nat} {l : Int} (hn : n ≤ 65536) (hw : Wf l) (h : okL (n : Int) l = true) : 1 ≤ numb l ∧ numb l ≤ n ∧ ((0 < l ∧ numb l = l) ∨ (l < 0 ∧ numb l = -l)) := by
  have h1 := (okL_ref (by omega) (by omega) hw).1 h
  have h2 := numb_cases hw
  omega
theorem rnv_bd {n : Nat} {l : Int} (hn : n ≤ 65536) (hw : Wf l) (h : okL (n : Int) l = true) : 1 ≤ rnv n l ∧ rnv n l ≤ n := by
  have := ok_lit hn hw h
  unfold rnv; omega
theorem rn_cases {n : Nat} {fl : Nat → Bool} {l : Int} : (decide (0 < l) = fl (rnv n l).toNat ∧ rn n fl l = -(rnv n l)) ∨ (decide (0 < l) ≠ fl (rnv n l).toNat ∧ rn n fl l = rnv n l) := by
  unfold rn
  by_cases e : decide (0 < l) = fl (rnv n l).toNat
  · rw [if_pos e]; exact .inl ⟨e, rfl⟩
  · rw [if_neg e]; exact .inr ⟨e, rfl⟩
theorem rn_wf {n : Nat} {fl : Nat → Bool} {l : Int} (hn : n ≤ 65536) (hw : Wf l) (h : okL (n : Int) l = true) : Wf (rn n fl l) ∧ okL (n : Int) (rn n fl l) = true ∧ numb (rn n fl l) = rnv n l := by
  have hb := rnv_bd hn hw h
  have hW : Wf (rn n fl l) := by unfold Wf; rcases rn_cases (n := n) (fl := fl) (l := l) with ⟨_, e⟩ | ⟨_, e⟩ <;> rw [e] <;> omega
  refine ⟨hW, (okL_ref (by omega) (by omega) hW).2 ?_, ?_⟩
  · rcases rn_cases (n := n) (fl := fl) (l := l) with ⟨_, e⟩ | ⟨_, e⟩ <;> rw [e] <;> omega
  · have := numb_cases hW
    rcases rn_cases (n := n) (fl := fl) (l := l) with ⟨_, e⟩ | ⟨_, e⟩ <;> rw [e] at this ⊢ <;> omega
theorem holds_tw {n : Nat} {fl : Nat → Bool} {l : Int} {bs : List Bool} (hn : n ≤ 65536) (hb : bs.length = n) (hw : Wf l) (h : okL (n : Int) l = true) : holdsM bs (rn n fl l) = holdsM (tw n fl bs) l := by
  obtain ⟨h1, h2, h3⟩ := rn_wf (fl := fl) hn hw h
  have hv := rnv_bd hn hw h
  have ho := ok_lit hn hw h
  unfold holdsM
  rw [h3, if_neg (by omega), if_neg (by omega), tw_get (i := (numb l - 1).toNat) (by omega), Option.getD_some]
  have e1 : n - 1 - (numb l - 1).toNat = (rnv n l - 1).toNat := by unfold rnv at *; omega
  have e2 : n - (numb l - 1).toNat = (rnv n l).toNat := by unfold rnv at *; omega
  rw [e1, e2]
  generalize bs[(rnv n l - 1).toNat]?.getD false = x
  rcases rn_cases (n := n) (fl := fl) (l := l) with ⟨e, e3⟩ | ⟨e, e3⟩
  · rw [e3, decide_eq_false (by omega : ¬ 0 < -(rnv n l)), ← e]
    cases x <;> cases decide (0 < l) <;> rfl
  · rw [e3, decide_eq_true (by omega : 0 < rnv n l)]
    revert e
    cases x <;> cases decide (0 < l) <;> cases fl (rnv n l).toNat <;> simp
/-- The formula with its numbers turned round, the last clause first. -/
def rnF (n : Nat) (fl : Nat → Bool) (f : List (List Int)) : List (List Int) := f.reverse.map fun c => c.map (rn n fl)
theorem may_lit {n : Nat} {f : List (List Int)} (h : mayM (n : Int) f = true) : ∀ c ∈ f, ∀ l ∈ c, okL (n : Int) l = true := by
  unfold mayM at h
  rw [Bool.and_eq_true] at h
  intro c hc l hl
  exact List.all_eq_true.1 (List.all_eq_true.1 h.2 c hc) l hl
theorem rnF_wf {n : Nat} {fl : Nat → Bool} {f : List (List Int)} (hn : n ≤ 65536) (hw : ∀ c ∈ f, ∀ l ∈ c, Wf l) (h : mayM (n : Int) f = true) : ∀ c ∈ rnF n fl f, ∀ l ∈ c, Wf l := by
  intro c hc l hl
  obtain ⟨d, hd, rfl⟩ := List.mem_map.1 hc
  obtain ⟨x, hx, rfl⟩ := List.mem_map.1 hl
  have hd := List.mem_reverse.1 hd
  exact (rn_wf hn (hw d hd x hx) (may_lit h d hd x hx)).1
theorem rnF_may {n : Nat} {fl : Nat → Bool} {f : List (List Int)} (hn : n ≤ 65536) (hw : ∀ c ∈ f, ∀ l ∈ c, Wf l) (h : mayM (n : Int) f = true) : mayM (n : Int) (rnF n fl f) = true := by
  unfold mayM
  rw [Bool.and_eq_true]
  refine ⟨decide_eq_true ⟨by omega, by omega⟩, ?_⟩
  refine List.all_eq_true.2 fun c hc => List.all_eq_true.2 fun l hl => ?_
  obtain ⟨d, hd, rfl⟩ := List.mem_map.1 hc
  obtain ⟨x, hx, rfl⟩ := List.mem_map.1 hl
  have hd := List.mem_reverse.1 hd
  exact (rn_wf hn (hw d hd x hx) (may_lit h d hd x hx)).2.1
theorem rnF_len {n : Nat} {fl : Nat → Bool} {f : List (List Int)} : (rnF n fl f).length = f.length := by simp [rnF]
theorem rnF_row {n : Nat} {fl : Nat → Bool} {f : List (List Int)} {N : Nat} (h : ∀ c ∈ f, c.length ≤ N) : ∀ c ∈ rnF n fl f, c.length ≤ N := by
  intro c hc
  obtain ⟨d, hd, rfl⟩ := List.mem_map.1 hc
  rw [List.length_map]; exact h d (List.mem_reverse.1 hd)
theorem eval_tw {n : Nat} {fl : Nat → Bool} {f : List (List Int)} {bs : List Bool} (hn : n ≤ 65536) (hb : bs.length = n) (hw : ∀ c ∈ f, ∀ l ∈ c, Wf l) (h : mayM (n : Int) f = true) : evalM bs (rnF n fl f) = evalM (tw n fl bs) f := by
  unfold evalM rnF
  rw [List.all_map, List.all_reverse]
  rw [Bool.eq_iff_iff, List.all_eq_true, List.all_eq_true]
  have key : ∀ c ∈ f, evalC bs (c.map (rn n fl)) = evalC (tw n fl bs) c := fun c hc => by
    unfold evalC
    rw [List.any_map]
    rw [Bool.eq_iff_iff, List.any_eq_true, List.any_eq_true]
    constructor
    · rintro ⟨l, hl, e⟩; exact ⟨l, hl, by rw [← holds_tw hn hb (hw c hc l hl) (may_lit h c hc l hl)]; exact e⟩
    · rintro ⟨l, hl, e⟩; exact ⟨l, hl, by show holdsM bs (rn n fl l) = true; rw [holds_tw hn hb (hw c hc l hl) (may_lit h c hc l hl)]; exact e⟩
  constructor
  · intro k c hc; rw [← key c hc]; exact k c hc
  · intro k c hc; show evalC bs (c.map (rn n fl)) = true; rw [key c hc]; exact k c hc
theorem many_tw {n : Nat} {fl : Nat → Bool} {f : List (List Int)} (hn : n ≤ 65536) (hw : ∀ c ∈ f, ∀ l ∈ c, Wf l) (h : mayM (n : Int) f = true) : many n (rnF n fl f) = many n f := by
  unfold many
  rw [← turned_many (n := n) (tw n fl) (evalM · f) (fun bs _ => tw_len) (fun a b ha hb => tw_inj ha hb)]
  exact congrArg List.length (List.filter_congr fun bs hb => eval_tw hn (mem_allB.1 hb) hw h)
/-- One clause more from behind. -/
theorem rnF_snoc {n : Nat} {fl : Nat → Bool} {f : List (List Int)} {i : Nat} {c : List Int} (hc : f[i]? = some c) : rnF n fl (f.drop i) = rnF n fl (f.drop (i + 1)) ++ [c.map (rn n fl)] := by
  have hi := (List.getElem?_eq_some_iff.1 hc).1
  have e : f.drop i = c :: f.drop (i + 1) := by rw [List.drop_eq_getElem_cons hi, (List.getElem?_eq_some_iff.1 hc).2]
  unfold rnF
  rw [e, List.reverse_cons, List.map_append]; rfl
end Go.Proofs.YtcebpbjpbnfacaaGreat

/-
  A formula that a law builds clause by clause, each clause a growing row of the law's own.
-/
namespace Go.Proofs.YtcebpbjpbnfacaaGreat
open Go.ChangeShapes Go.WideShapes Go.ChangeAt Go.RowKit
set_option linter.unusedVariables false
set_option linter.unusedSimpArgs false

def RowsU (w1 wr : World) (vs : List Value) (gl : List (List Int)) : Prop := vs.length = gl.length ∧ ∀ (i : Nat) (c : List Int), gl[i]? = some c → ∃ B cap, vs[i]? = some (.slice B c.length cap) ∧ wr.ownsRow w1.heap.size 3 1 (.slice B c.length cap) c.length (ints c)
theorem RowsU.keep {w1 w wp : World} {vs : List Value} {gl : List (List Int)} (h : RowsU w1 w vs gl) (k : ∀ (g : Nat) (cs : Array Value), w.heap[g]? = some (.cells cs 3 (0, 0)) → wp.heap[g]? = w.heap[g]?) : RowsU w1 wp vs gl :=
  ⟨h.1, fun i c hc => by
    obtain ⟨B, cap, h1, h2⟩ := h.2 i c hc
    refine ⟨B, cap, h1, h2.1, ?_⟩
    rcases h2.2 with h0 | ⟨g, c, cur, a, b, d, r⟩
    · exact .inl h0
    · exact .inr ⟨g, c, cur, a, b, (k g cur d).trans d, r⟩⟩
theorem RowsU.snoc {w1 w : World} {vs : List Value} {gl : List (List Int)} {B : Option Addr} {cap : Nat} {c : List Int} (h : RowsU w1 w vs gl) (k : w.ownsRow w1.heap.size 3 1 (.slice B c.length cap) c.length (ints c)) : RowsU w1 w (vs ++ [.slice B c.length cap]) (gl ++ [c]) := by
  refine ⟨by rw [List.length_append, List.length_append, h.1]; rfl, fun i d hd => ?_⟩
  by_cases hi : i < gl.length
  · rw [List.getElem?_append_left hi] at hd
    rw [List.getElem?_append_left (by rw [h.1]; exact hi)]; exact h.2 i d hd
  · have hi2 := (List.getElem?_eq_some_iff.1 hd).1
    simp at hi2
    obtain rfl : i = gl.length := by omega
    simp at hd; subst hd
    exact ⟨B, cap, by rw [← h.1]; simp, k⟩
theorem RowsU.ok {w1 w : World} {vs : List Value} {gl : List (List Int)} (h : RowsU w1 w vs gl) (hl : ∀ c ∈ gl, c.length ≤ 9223372036854775807) : RowsOK w vs gl :=
  ⟨h.1, fun i c hc => by
    obtain ⟨B, cap, h1, h2⟩ := h.2 i c hc
    exact ⟨B, cap, h1, seq_own h2, hl c (List.mem_of_getElem? hc)⟩⟩
theorem row_belowU {w X : World} {b n : Nat} {e : TypeId} {v : Value} {xs : List Value} (h : w.ownsRow b e 1 v n xs) (k : Below w.heap.size w X) : X.ownsRow b e 1 v n xs := by
  refine ⟨h.1, ?_⟩
  rcases h.2 with h0 | ⟨g, c, cur, a, b, d, r⟩
  · exact .inl h0
  · exact .inr ⟨g, c, cur, a, b, (k.block g (lt_of_heap d)).trans d, r⟩
theorem own_apartU {w w' : World} {b n : Nat} {v : Value} {xs : List Value} (h : w.ownsRow b 37 1 v n xs) (hg : w.grownBy w' v.ownBlock) : ∀ (g : Nat) (cs : Array Value), w.heap[g]? = some (.cells cs 3 (0, 0)) → w'.heap[g]? = w.heap[g]? := fun g cs hc => by
  refine hg.block g (lt_of_heap hc) fun e => ?_
  rcases h.2 with ⟨h0, _⟩ | ⟨g', c, cur, h0, _, hh, _⟩
  · rw [h0] at e; cases e
  · rw [h0] at e; injection e with e
    have e' : g = g' := e
    subst e'
    rw [hc] at hh; injection hh with hh; injection hh with _ hh _
    exact absurd hh (by decide)
theorem own_base {w : World} {b b' n : Nat} {e : TypeId} {v : Value} {xs : List Value} (h : w.ownsRow b e 1 v n xs) (k : b' ≤ b) : w.ownsRow b' e 1 v n xs := by
  refine ⟨h.1, ?_⟩
  rcases h.2 with h0 | ⟨g, c, cur, a, b, r⟩
  · exact .inl h0
  · exact .inr ⟨g, c, cur, a, Nat.le_trans k b, r⟩
theorem rows_next {w1 wo wr wp : World} {G C : Option Addr} {L gc cc g1 c1 : Nat} {vs : List Value} {gl : List (List Int)} {d : List Int} {o : Obj} (R : LRel w1 wo 37 (.slice G L gc) vs) (hvl : vs.length = L) (I : RowsU w1 wo vs gl)
    (S : LRel wo wr 3 (.slice C d.length cc) (ints d)) (hg1 : (wr.alloc o).grownBy wp (Value.slice G L gc).ownBlock) (hown1 : wp.ownsRow w1.heap.size 37 1 (.slice (some ⟨g1, 0, none⟩) (L + 1) c1) (L + 1) (vs ++ [.slice C d.length cc])) :
    LRel w1 wp 37 (.slice (some ⟨g1, 0, none⟩) (L + 1) c1) (vs ++ [.slice C d.length cc]) ∧ RowsU w1 wp (vs ++ [.slice C d.length cc]) (gl ++ [d]) := by
  have bX : Below wo.heap.size wo (wr.alloc o) := S.below.alloc S.below.size o
  have hX := row_belowU R.own bX
  rw [hvl] at hX
  have ap := own_apartU hX hg1
  have hS : (wr.alloc o).ownsRow w1.heap.size 3 1 (.slice C d.length cc) d.length (ints d) := by
    have h := S.own
    rw [List.length_map] at h
    exact own_base (h.alloc o) R.below.size
  have I2 : RowsU w1 (wr.alloc o) (vs ++ [.slice C d.length cc]) (gl ++ [d]) := (I.keep (fun g cs hc => bX.block g (lt_of_heap hc))).snoc hS
  refine ⟨⟨by rw [List.length_append, hvl]; exact hown1, (R.below.trans (bX.mono R.below.size)).grown hg1 (Nat.le_trans R.below.size bX.size) (fun k hk => ?_)⟩, I2.keep ap⟩
  rcases R.own.2 with ⟨h0, _⟩ | ⟨g', c, cur, h0, hb, _⟩
  · rw [h0] at hk; simp [Value.ownBlock] at hk
  · rw [h0] at hk; simp [Value.ownBlock] at hk; omega
end Go.Proofs.YtcebpbjpbnfacaaGreat
