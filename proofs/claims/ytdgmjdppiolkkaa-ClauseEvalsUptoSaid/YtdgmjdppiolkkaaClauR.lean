/-
  Normal of the document's own answer: what it answers at every clause.
-/
import Derived.Test.YtdgmjdppiolkkaaClauP
import Derived.Test.YtdgmjdppiolkkaaClauQ
import Derived.Deep.RegionLaw
import Derived.Deep.DrawnRows
namespace Go.Proofs.Ytdgmjdppiolkkaa
open Go.ChangeShapes Go.WideShapes Go.ChangeAt Go.RowKit
set_option linter.unusedVariables false

/-! ### One more, in its place -/
theorem ins_at {l : Int} : ∀ {o : List Int} {k : Nat}, (∀ (j : Nat) (y : Int), j < k → o[j]? = some y → ltL y l = true) → (∀ y, o[k]? = some y → ltL y l = false) → k ≤ o.length →
    ins l o = if o[k]? = some l then o else o.take k ++ [l] ++ o.drop k
  | [], k, _, _, hk => by
    obtain rfl : k = 0 := by simpa using hk
    simp [ins]
  | a :: t, 0, _, h2, _ => by
    have := h2 a rfl
    unfold ins
    rw [this]
    by_cases e : a = l
    · subst e; simp
    · simp [e]
  | a :: t, k + 1, h1, h2, hk => by
    have ha := h1 0 a (by omega) rfl
    unfold ins
    rw [if_pos ha, ins_at (o := t) (k := k) (fun j y hj hy => h1 (j + 1) y (by omega) (by simpa using hy)) (fun y hy => h2 y (by simpa using hy)) (by simpa using hk)]
    rw [List.getElem?_cons_succ]
    split <;> simp
theorem step_app {P : Program} {ops : Array Oper} {o : Oper} {a : Act} {w : World} {K : Act → World → Prop} {Q : Exit → Act → World → Prop} {E : Prop} (hgd : o.guard = none) (s x : Operand) (t : TypeId)
    (ho : o.op = .call { callee := .builtin .append, args := #[s, x], argTypes := #[t, t] })
    (e : TypeId) (i : TypeInfo) (z : Value) (bytes : Nat) (ht : P.underlying t = some (.slice e)) (hi : P.info? e = some i) (hz : i.zero = some z)
    (hsize : i.size = 1) (hby : i.bytes = bytes) (hzs : z.cells.size = 1) (wr : World)
    (v : Value) (xs : List Value) (hs : a.eval s = v) (R : LRel wr w e v xs)
    (ad : Addr) (m c : Nat) (news : List Value) (hx : a.eval x = .slice (some ad) m c) (hl : news.length = m) (hnews : ∀ j u, news[j]? = some u → w.cell? (ad.add j) = some u) (h1 : ∀ u ∈ news, u.oneCell' = true)
    (h63 : xs.length + m ≤ maxLen) (hbytes : (xs.length + m) * bytes ≤ 140737488355328)
    (h : ∀ v' w', LRel wr w' e v' (xs ++ news) → w.grownBy w' v.ownBlock → K (a.put o.dst v') w') : if Region.wanted o (yielded ops a.tmps) = true then Oper.wp P o a w K Q else E := by
  rw [if_pos (by simp [Region.wanted, hgd])]
  refine wp_append_own w s x t ho wr.heap.size e i z 1 bytes ht hi hz hsize hby hzs (by omega) v xs.length xs hs R.own ad m c news hx (by omega) hnews h1 h63 hbytes R.below.size fun v' w' h2 h3 _ => h v' w' ⟨?_, R.below.grown h3 R.below.size fun k hk => ?_⟩ h3
  · rw [List.length_append, hl]; exact h2
  · rcases R.own.2 with ⟨h0, _⟩ | ⟨g', c, cur, h0, hb, _⟩
    · subst h0; simp [Value.ownBlock] at hk
    · subst h0; simp [Value.ownBlock] at hk; omega
theorem step_app2 {P : Program} {ops : Array Oper} {o : Oper} {a : Act} {w : World} {K : Act → World → Prop} {Q : Exit → Act → World → Prop} {E : Prop} (W : World) (hW : w = W) (hgd : o.guard = none) (s x : Operand) (t : TypeId)
    (ho : o.op = .call { callee := .builtin .append, args := #[s, x], argTypes := #[t, t] })
    (e : TypeId) (i : TypeInfo) (z : Value) (bytes : Nat) (ht : P.underlying t = some (.slice e)) (hi : P.info? e = some i) (hz : i.zero = some z)
    (hsize : i.size = 1) (hby : i.bytes = bytes) (hzs : z.cells.size = 1) (wr : World)
    (v : Value) (xs : List Value) (hs : a.eval s = v) (R : LRel wr W e v xs)
    (ad : Addr) (m c : Nat) (news : List Value) (hx : a.eval x = .slice (some ad) m c) (hl : news.length = m) (hnews : ∀ j u, news[j]? = some u → W.cell? (ad.add j) = some u) (h1 : ∀ u ∈ news, u.oneCell' = true)
    (h63 : xs.length + m ≤ maxLen) (hbytes : (xs.length + m) * bytes ≤ 140737488355328)
    (h : ∀ v' w', LRel wr w' e v' (xs ++ news) → W.grownBy w' v.ownBlock → K (a.put o.dst v') w') : if Region.wanted o (yielded ops a.tmps) = true then Oper.wp P o a w K Q else E := by
  subst hW
  exact step_app hgd s x t ho e i z bytes ht hi hz hsize hby hzs wr v xs hs R ad m c news hx hl hnews h1 h63 hbytes h
theorem step_app_nil {P : Program} {ops : Array Oper} {o : Oper} {a : Act} {w : World} {K : Act → World → Prop} {Q : Exit → Act → World → Prop} {E : Prop} (hgd : o.guard = none) (s x : Operand) (t : TypeId)
    (ho : o.op = .call { callee := .builtin .append, args := #[s, x], argTypes := #[t, t] })
    (e : TypeId) (i : TypeInfo) (ht : P.underlying t = some (.slice e)) (hi : P.info? e = some i) (wr : World)
    (v : Value) (xs : List Value) (hs : a.eval s = v) (R : LRel wr w e v xs) (hx : a.eval x = .slice none 0 0)
    (h : K (a.put o.dst v) w) : if Region.wanted o (yielded ops a.tmps) = true then Oper.wp P o a w K Q else E := by
  rw [if_pos (by simp [Region.wanted, hgd])]
  have hrun := run_append_owned_none (P := P) (w := w) wr.heap.size t o.type e i 1 ht hi v xs.length xs R.own
  unfold Oper.wp
  simp [execOp, ho, resolve, invoke, builtin, hs, hx, hrun, Result.andThen]
  exact h
theorem step_app_nil2 {P : Program} {ops : Array Oper} {o : Oper} {a : Act} {w : World} {K : Act → World → Prop} {Q : Exit → Act → World → Prop} {E : Prop} (W : World) (hW : w = W) (hgd : o.guard = none) (s x : Operand) (t : TypeId)
    (ho : o.op = .call { callee := .builtin .append, args := #[s, x], argTypes := #[t, t] })
    (e : TypeId) (i : TypeInfo) (ht : P.underlying t = some (.slice e)) (hi : P.info? e = some i) (wr : World)
    (v : Value) (xs : List Value) (hs : a.eval s = v) (R : LRel wr W e v xs) (hx : a.eval x = .slice none 0 0)
    (h : K (a.put o.dst v) W) : if Region.wanted o (yielded ops a.tmps) = true then Oper.wp P o a w K Q else E := by
  subst hW
  exact step_app_nil hgd s x t ho e i ht hi wr v xs hs R hx h
theorem LRel.alloc {w wr : World} {e : TypeId} {v : Value} {l : List Value} (h : LRel w wr e v l) (o : Obj) : LRel w (wr.alloc o) e v l := ⟨h.own.alloc o, h.below.alloc h.below.size o⟩
theorem LRel.from_ {w wr w' : World} {e : TypeId} {v : Value} {l : List Value} (h : LRel w wr e v l) (k : LRel wr w' e v l) : LRel w w' e v l := ⟨by
  have := k.own
  refine ⟨this.1, ?_⟩
  rcases this.2 with h0 | ⟨g, cap, cur, a, b, c⟩
  · exact .inl h0
  · exact .inr ⟨g, cap, cur, a, Nat.le_trans h.below.size b, c⟩, h.below.trans (k.below.mono h.below.size)⟩
theorem LRel.to {w wr w' : World} {e : TypeId} {v : Value} {l : List Value} (h : Below w.heap.size w wr) (k : LRel wr w' e v l) : LRel w w' e v l := ⟨by
  have := k.own
  refine ⟨this.1, ?_⟩
  rcases this.2 with h0 | ⟨g, cap, cur, a, b, c⟩
  · exact .inl h0
  · exact .inr ⟨g, cap, cur, a, Nat.le_trans h.size b, c⟩, h.trans (k.below.mono h.size)⟩
theorem LRel.draws {w wr : World} {e : TypeId} {v : Value} {l : List Value} (h : LRel w wr e v l) (n : Nat) : LRel w (wr.drewN n) e v l := ⟨h.own, Below.draws h.below n⟩
theorem nil_rel (w wr : World) (e : TypeId) (b : Below w.heap.size w wr) : LRel w wr e (.slice none 0 0) [] := ⟨⟨rfl, .inl ⟨rfl, rfl⟩⟩, b⟩
/-- The cells of a part of a slice, to be appended. -/
theorem news_of_seq {w : World} {g off : Nat} {zs : List Int} (h : SeqAt (Value.int .i64) w (some ⟨g, off, none⟩) zs) : ∀ j u, (ints zs)[j]? = some u → w.cell? ((⟨g, off, none⟩ : Addr).add j) = some u := by
  intro j u hu
  rw [List.getElem?_map] at hu
  obtain ⟨z, hz, rfl⟩ := Option.map_eq_some_iff.1 hu
  obtain ⟨a, ha, hc⟩ := h.get j z hz
  injection ha with ha; subst ha; exact hc
theorem seq_part {w : World} {g : Nat} {zs : List Int} (h : SeqAt (Value.int .i64) w (some ⟨g, 0, none⟩) zs) (k : Nat) : SeqAt (Value.int .i64) w (some ⟨g, k, none⟩) (zs.drop k) :=
  ⟨fun i z hz => by
    rw [List.getElem?_drop] at hz
    obtain ⟨a, ha, hc⟩ := h.get (k + i) z hz
    injection ha with ha; subst ha
    refine ⟨_, rfl, ?_⟩
    have e : (⟨g, k, none⟩ : Addr).add i = (⟨g, 0, none⟩ : Addr).add (k + i) := by
      unfold Addr.add
      by_cases hi : i = 0
      · subst hi
        by_cases hk : k = 0
        · subst hk; rfl
        · simp [hk]
      · rw [if_neg hi, if_neg (by omega)]; simp
    rw [e]; exact hc⟩
theorem seq_head {w : World} {A : Option Addr} {zs : List Int} (h : SeqAt (Value.int .i64) w A zs) (k : Nat) : SeqAt (Value.int .i64) w A (zs.take k) :=
  ⟨fun i z hz => by
    have hi := (List.getElem?_eq_some_iff.1 hz).1
    rw [List.length_take] at hi
    rw [List.getElem?_take_of_lt (by omega)] at hz
    exact h.get i z hz⟩
theorem one_at (w : World) (t : TypeId) (x : Value) : ∀ j u, [x][j]? = some u → (w.alloc (.cells #[x] t)).cell? ((⟨w.heap.size, 0, none⟩ : Addr).add j) = some u := by
  intro j u hu
  match j, hu with
  | 0, hu => simp at hu; subst hu; rw [show (⟨w.heap.size, 0, none⟩ : Addr).add 0 = ⟨w.heap.size, 0, none⟩ from rfl, World.cell?_alloc_at _ _ _ _ rfl]; rfl
theorem one_kept {w w' W : World} {t : TypeId} {x : Value} (hW : W.heap = (w.alloc (.cells #[x] t)).heap) (hg : W.grownBy w' none) : ∀ j u, [x][j]? = some u → w'.cell? ((⟨w.heap.size, 0, none⟩ : Addr).add j) = some u := by
  intro j u hu
  have hs : W.heap.size = w.heap.size + 1 := by rw [hW]; simp
  have hb : Below (w.heap.size + 1) W w' := (Below.refl _ _).grown hg (by omega) (fun k hk => by cases hk)
  rw [hb.cell (by rw [add_block]; show w.heap.size < w.heap.size + 1; omega), ← one_at w t x j u hu]
  exact World.cell?_of_block (by rw [hW])
theorem own_form {w wr : World} {e : TypeId} {v : Value} {l : List Value} {n : Nat} (h : LRel w wr e v l) (hn : l.length = n) : ∃ B cap, v = .slice B n cap := by
  subst hn
  rcases h.own.2 with ⟨h1, h2⟩ | ⟨g, c2, cur, h1, _⟩
  · exact ⟨none, 0, by rw [h1, h2]⟩
  · exact ⟨_, _, h1⟩
theorem cells_one {l : List Int} : ∀ u ∈ ints l, u.oneCell' = true := by
  intro u hu
  obtain ⟨z, _, rfl⟩ := List.mem_map.1 hu
  rfl
end Go.Proofs.Ytdgmjdppiolkkaa
