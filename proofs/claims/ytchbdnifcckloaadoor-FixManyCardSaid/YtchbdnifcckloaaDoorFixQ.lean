/-
  What FixMany reckons, beside what All and Any make: plain mathematics.
-/
import Derived.Test.YtchbdnifcckloaaDoorFixJ3
namespace Go.Proofs.YtchbdnifcckloaaDoor
open Go.ChangeShapes Go.WideShapes Go.ChangeAt Go.RowKit
set_option linter.unusedVariables false

/-- The truth of the variable j. -/
def bt (env : List Int) (j : Nat) : Int := low 1 (env.getD j 0)
def foldB (f : Int → Int → Int) (s : Int) (env : List Int) (k : Nat) : Int := (List.range k).foldl (fun a j => f a (bt env j)) s
def av (env : List Int) (k : Nat) : Int := foldB (bits .and .u16) 1 env k
def ov (env : List Int) (k : Nat) : Int := foldB (bits .or .u16) 0 env k
theorem foldB_succ (f : Int → Int → Int) (s : Int) (env : List Int) (k : Nat) : foldB f s env (k + 1) = f (foldB f s env k) (bt env k) := by
  unfold foldB; rw [List.range_succ, List.foldl_append]; rfl
def B01 (a : Int) : Prop := a = 0 ∨ a = 1
theorem bt_01 (env : List Int) (j : Nat) : B01 (bt env j) := by
  have h := low_bd m1 (env.getD j 0)
  have : pw 1 = 2 := rfl
  unfold B01 bt
  omega
theorem and_01 {a b : Int} (ha : B01 a) (hb : B01 b) : B01 (bits .and .u16 a b) := by
  rcases ha with rfl | rfl <;> rcases hb with rfl | rfl <;> first | exact .inl rfl | exact .inr rfl
theorem or_01 {a b : Int} (ha : B01 a) (hb : B01 b) : B01 (bits .or .u16 a b) := by
  rcases ha with rfl | rfl <;> rcases hb with rfl | rfl <;> first | exact .inl rfl | exact .inr rfl
theorem low_01 {a : Int} (ha : B01 a) : low 1 a = a := by rcases ha with rfl | rfl <;> rfl
theorem av_01 (env : List Int) : ∀ k, B01 (av env k)
  | 0 => .inr rfl
  | k + 1 => by unfold av; rw [foldB_succ]; exact and_01 (av_01 env k) (bt_01 env k)
theorem ov_01 (env : List Int) : ∀ k, B01 (ov env k)
  | 0 => .inl rfl
  | k + 1 => by unfold ov; rw [foldB_succ]; exact or_01 (ov_01 env k) (bt_01 env k)
theorem jv_and {env : List Int} {V : Int → Int} {z0 : Int} {rest : List Int} (h : ∀ (j : Nat) (z : Int), (z0 :: rest)[j]? = some z → V z = bt env j) : jv 4 V z0 rest = av env (rest.length + 1) := by
  have key : ∀ m, m ≤ rest.length → (rest.take m).foldl (fun a z => doM 4 1 (low 1 a) (low 1 (V z))) (V z0) = av env (m + 1) := by
    intro m
    induction m with
    | zero =>
      intro _
      show V z0 = foldB (bits .and .u16) 1 env (0 + 1)
      rw [foldB_succ, h 0 z0 rfl, show foldB (bits .and .u16) 1 env 0 = 1 from rfl]
      rcases bt_01 env 0 with e | e <;> rw [e] <;> rfl
    | succ m ih =>
      intro hm
      obtain ⟨z, hz⟩ : ∃ z, rest[m]? = some z := ⟨_, List.getElem?_eq_getElem (by omega)⟩
      rw [List.take_add_one, hz, List.foldl_append]
      show doM 4 1 (low 1 ((rest.take m).foldl _ (V z0))) (low 1 (V z)) = _
      rw [ih (by omega), h (m + 1) z (by simpa using hz), low_01 (av_01 env _), low_01 (bt_01 env _)]
      show _ = foldB _ 1 env (m + 1 + 1)
      rw [foldB_succ]; rfl
  have := key rest.length (Nat.le_refl _)
  rw [List.take_length] at this
  exact this
theorem jv_or {env : List Int} {V : Int → Int} {z0 : Int} {rest : List Int} (h : ∀ (j : Nat) (z : Int), (z0 :: rest)[j]? = some z → V z = bt env j) : jv 5 V z0 rest = ov env (rest.length + 1) := by
  have key : ∀ m, m ≤ rest.length → (rest.take m).foldl (fun a z => doM 5 1 (low 1 a) (low 1 (V z))) (V z0) = ov env (m + 1) := by
    intro m
    induction m with
    | zero =>
      intro _
      show V z0 = foldB (bits .or .u16) 0 env (0 + 1)
      rw [foldB_succ, h 0 z0 rfl, show foldB (bits .or .u16) 0 env 0 = 0 from rfl]
      rcases bt_01 env 0 with e | e <;> rw [e] <;> rfl
    | succ m ih =>
      intro hm
      obtain ⟨z, hz⟩ : ∃ z, rest[m]? = some z := ⟨_, List.getElem?_eq_getElem (by omega)⟩
      rw [List.take_add_one, hz, List.foldl_append]
      show doM 5 1 (low 1 ((rest.take m).foldl _ (V z0))) (low 1 (V z)) = _
      rw [ih (by omega), h (m + 1) z (by simpa using hz), low_01 (ov_01 env _), low_01 (bt_01 env _)]
      show _ = foldB _ 0 env (m + 1 + 1)
      rw [foldB_succ]; rfl
  have := key rest.length (Nat.le_refl _)
  rw [List.take_length] at this
  exact this
theorem Wl.reach {ns : List Nd} {x : Int} {ls : List Int} (h : Wl ns x ls) {z : Int} (hr : Reach ns x z) : z ∈ ls := by
  induction hr with
  | refl => exact h.mem
  | step r hn hp h1 ih =>
    obtain ⟨a, b, c⟩ := h.cl _ ih _ hn
    rcases hp with rfl | rfl | rfl
    · exact a.resolve_left (by omega)
    · exact b.resolve_left (by omega)
    · exact c.resolve_left (by omega)
/-- A term has at least as many parts as there are terms that it reaches. -/
theorem Wl.many {ns : List Nd} {x : Int} {ls zs : List Int} (h : Wl ns x ls) (hd : zs.Nodup) (hr : ∀ z ∈ zs, Reach ns x z) : zs.length ≤ ls.length := by
  have : ∀ (zs ls : List Int), zs.Nodup → (∀ z ∈ zs, z ∈ ls) → zs.length ≤ ls.length := by
    intro zs
    induction zs with
    | nil => intro ls _ _; exact Nat.zero_le _
    | cons z zs ih =>
      intro ls hd hm
      have hz := hm z (List.mem_cons_self ..)
      have := ih (ls.erase z) (List.nodup_cons.1 hd).2 fun y hy => by
        have hne : y ≠ z := fun e => (List.nodup_cons.1 hd).1 (e ▸ hy)
        exact (List.mem_erase_of_ne hne).2 (hm y (List.mem_cons_of_mem _ hy))
      have hl := List.length_erase_of_mem hz
      have : 1 ≤ ls.length := List.length_pos_of_mem hz
      simp only [List.length_cons]
      omega
  exact this zs ls hd fun z hz => h.reach (hr z hz)
/-- The Vars that the law makes. -/
structure VarsL (ns : List Nd) (zs : List Int) (k : Nat) : Prop where
  len : zs.length = k
  at_ : ∀ (j : Nat) (z : Int), zs[j]? = some z → nd ns z = some ⟨2, 1, (j : Int), 0, 0, 0⟩
  w1 : ∀ (i : Nat) (m : Nd), ns[i]? = some m → m.op = 2 → m.w = 1
theorem VarsL.start : VarsL [] [] 0 := ⟨rfl, fun j z h => by simp at h, fun i m h => by simp at h⟩
theorem VarsL.next {ns ns' : List Nd} {zs : List Int} {k : Nat} {x : Int} (h : VarsL ns zs k) (hx : nd ns' x = some ⟨2, 1, (k : Int), 0, 0, 0⟩) (he : ∃ l, ns' = ns ++ l) (hv : NVV ns ns' ⟨2, 1, (k : Int), 0, 0, 0⟩) : VarsL ns' (zs ++ [x]) (k + 1) := by
  refine ⟨by simp [h.len], fun j z hz => ?_, fun i m hi ho => ?_⟩
  · by_cases hj : j < k
    · rw [List.getElem?_append_left (by rw [h.len]; exact hj)] at hz
      obtain ⟨l, rfl⟩ := he
      have := h.at_ j z hz
      rw [nd_append (nd_pos this).2.1]; exact this
    · have hjl := (List.getElem?_eq_some_iff.1 hz).1
      simp [h.len] at hjl
      obtain rfl : j = k := by omega
      rw [List.getElem?_append_right (by rw [h.len]; exact Nat.le_refl _), h.len] at hz
      simp at hz
      subst hz
      exact hx
  · rcases hv i m hi ho with hm | rfl
    · exact h.w1 i m hm ho
    · rfl
def VA (ns : List Nd) (zs : List Int) : Prop := ∀ (j : Nat) (z : Int), zs[j]? = some z → nd ns z = some ⟨2, 1, (j : Int), 0, 0, 0⟩
theorem VA.nodup {ns : List Nd} {zs : List Int} (h : VA ns zs) : zs.Nodup := by
  rw [List.nodup_iff_pairwise_ne, List.pairwise_iff_getElem]
  intro i j hi hj hij e
  have a := h i _ (List.getElem?_eq_getElem hi)
  have b := h j _ (List.getElem?_eq_getElem hj)
  rw [e, b] at a
  simp at a
  omega
theorem VA.mem {ns : List Nd} {zs : List Int} (h : VA ns zs) : ∀ z ∈ zs, isT ns z ∧ wdt ns z = 1 ∧ ¬ isC ns z := fun z hz => by
  obtain ⟨j, hj⟩ := List.getElem?_of_mem hz
  have := h j z hj
  refine ⟨isT_nd this, wdt_of this, fun ⟨n, hn, h1⟩ => ?_⟩
  rw [this] at hn
  injection hn with hn
  subst hn
  cases h1
theorem VA.v {ns : List Nd} {zs : List Int} (h : VA ns zs) (hwf : WF ns) (env : List Int) (j : Nat) (z : Int) (hz : zs[j]? = some z) : V ns env z = bt env j := by
  rw [V_var hwf env (h j z hz)]; rfl
theorem VA.more {ns l : List Nd} {zs : List Int} (h : VA ns zs) : VA (ns ++ l) zs := fun j z hz => by
  have := h j z hz
  rw [nd_append (nd_pos this).2.1]; exact this
/-- What holds at a round's head of the law's loop. -/
structure LM (w1 wr : World) (ab k : Nat) (l : Value) (ns : List Nd) (zs : List Int) : Prop where
  cur : Cur w1 wr ab ns (fun b => Value.ownBlock l = some b)
  row : wr.ownsRow w1.heap.size 33 1 l k (tcells zs)
  vs : VarsL ns zs k
  len : ns.length ≤ k
theorem LM.start {w1 w2 : World} {ab : Nat} (h : Cur w1 w2 ab [] (fun _ => False)) : LM w1 w2 ab 0 (.slice none 0 0) [] [] :=
  ⟨by obtain ⟨foot, a, b, c, d⟩ := h; exact ⟨foot, a, b, fun k hk => ⟨(c k hk).1, fun e => by cases e⟩, fun k e => by cases e⟩, ⟨rfl, .inl ⟨rfl, rfl⟩⟩, VarsL.start, Nat.le_refl _⟩
theorem LM.next {w1 wr w4 wp : World} {ab k g cap cap' : Nat} {A : Option Addr} {ns ns' : List Nd} {zs : List Int} {x : Int} {o : Obj} (h : LM w1 wr ab k (.slice A k cap) ns zs) (N : Nxt w1 wr ab ns (fun b => Value.ownBlock (.slice A k cap) = some b) w4 ns') (hx : nd ns' x = some ⟨2, 1, (k : Int), 0, 0, 0⟩) (hv : NVV ns ns' ⟨2, 1, (k : Int), 0, 0, 0⟩)
    (h2 : wp.ownsRow w1.heap.size 33 1 (.slice (some ⟨g, 0, none⟩) (k + 1) cap') (k + 1) (tcells zs ++ [.int .i64 x])) (g2 : (w4.alloc o).grownBy wp (Value.ownBlock (.slice A k cap))) (hat : Value.ownBlock (.slice A k cap) = some g ∨ g = w4.heap.size + 1) (hlt : g < wp.heap.size) :
    LM w1 wp ab (k + 1) (.slice (some ⟨g, 0, none⟩) (k + 1) cap') ns' (zs ++ [x]) := by
  obtain ⟨foot, a, b, c, d⟩ := N.cur
  refine ⟨⟨foot, a.keep (fun b hb => (g2.block b (by have := a.lt b hb; simp; omega) (fun e => (c b hb).2 e.symm)).trans (alloc_other (a.lt b hb))) (by have := g2.size; simp at this; omega), (b.alloc b.size o).grown g2 (by have := b.size; simp; omega) (fun k e => ?_), fun k hk => ⟨(c k hk).1, fun e => ?_⟩, fun k e => ?_⟩, by unfold tcells; rw [List.map_append]; exact h2, h.vs.next hx N.ext hv, by have := N.len; have := h.len; omega⟩
  · rcases h.row.2 with ⟨e2, _⟩ | ⟨g', c', cur, e2, hge, _⟩
    · rw [e2] at e; cases e
    · rw [e2] at e
      have : g' = k := by simpa [Value.ownBlock] using e
      omega
  · have e' : g = k := by simpa [Value.ownBlock] using e
    subst e'
    rcases hat with h1 | h1
    · exact (c g hk).2 h1
    · have := a.lt g hk; omega
  · have e' : g = k := by simpa [Value.ownBlock] using e
    subst e'; exact hlt
end Go.Proofs.YtchbdnifcckloaaDoor
