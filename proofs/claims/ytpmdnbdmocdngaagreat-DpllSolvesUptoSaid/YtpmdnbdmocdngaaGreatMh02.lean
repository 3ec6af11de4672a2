/-
  Parts of the proof, joined: UnitN, ClauA, ClauB, ClauC.
-/
import Derived.Test.YtpmdnbdmocdngaaGreatMh01
import Derived.ProofKit
import Derived.OpenShut
import Derived.Outline
import Derived.Deep.Draws
import Derived.Deep.QuietTactic
import Derived.BigQuiet
import Derived.Laws.OwnMore
import Derived.Laws.Unary
import Derived.Laws.Small
import Derived.OwnWalk

namespace Go.Proofs.YtpmdnbdmocdngaaGreat
set_option linter.unusedVariables false

/-! ### Going through -/
structure Fw (n : Nat) (cs : List (List Int)) (m t hs : List Int) (D : Nat → List Int) (lf : List Int) (P : Nat → Prop) : Prop where
  st : Hs n t hs
  up : Up m t
  low : Low n cs m t
  len : lf.length = cs.length
  left : ∀ (i : Nat) (c : List Int), cs[i]? = some c → lf[i]? = some (cnt (D i) c : Int)
  sub : ∀ (i : Nat) (x : Int), x ∈ D i → x ∈ hs
  set : ∀ (i : Nat) (c : List Int), P i → cs[i]? = some c → 2 ≤ cnt (D i) c ∨ ∃ x ∈ c, wo t x = 1
section
variable {n : Nat} {cs : List (List Int)} {m t hs : List Int} {D D' : Nat → List Int} {lf : List Int} {P P' : Nat → Prop} {i : Nat} {c : List Int} {l h : Int}
theorem Fw.also (F : Fw n cs m t hs D lf P) (hc : cs[i]? = some c) (k : 2 ≤ cnt (D i) c ∨ ∃ x ∈ c, wo t x = 1) : Fw n cs m t hs D lf (fun j => P j ∨ j = i) :=
  ⟨F.st, F.up, F.low, F.len, F.left, F.sub, fun j d hj hd => by
    rcases hj with hj | rfl
    · exact F.set j d hj hd
    · rw [hc] at hd; injection hd with hd; subst hd; exact k⟩
theorem Fw.weak (F : Fw n cs m t hs D lf P) (k : ∀ j, P' j → P j) : Fw n cs m t hs D lf P' := ⟨F.st, F.up, F.low, F.len, F.left, F.sub, fun j d hj hd => F.set j d (k j hj) hd⟩
theorem Fw.same (F : Fw n cs m t hs D lf P) (k : ∀ (j : Nat) (d : List Int), cs[j]? = some d → cnt (D' j) d = cnt (D j) d) (s : ∀ (j : Nat) (x : Int), x ∈ D' j → x ∈ hs) : Fw n cs m t hs D' lf P :=
  ⟨F.st, F.up, F.low, F.len, fun j d hd => by rw [k j d hd]; exact F.left j d hd, s, fun j d hj hd => by rw [k j d hd]; exact F.set j d hj hd⟩
theorem Fw.others (F : Fw n cs m t hs D lf P) (ok : FOk n cs) (hc : cs[i]? = some c) (h1 : cnt (D i) c < 2) (hl : l ∈ c) (h0 : wo t l ≠ -1) : ∀ y ∈ c, y ≠ l → wo t y = -1 := by
  intro y hy hne
  have okc := ok c (List.mem_of_getElem? hc)
  have gone : ∀ z ∈ c, wo t z ≠ -1 → -z ∉ D i := fun z hz hz1 hd => by
    have := (F.st.ok _ (F.sub i _ hd)).2
    rw [wo_opp (okc z hz)] at this; omega
  rcases wo_cases F.st.tv y with e | e | e
  · exact e
  · exact absurd (cnt_two hy hl (gone y hy (by omega)) (gone l hl h0) hne) (by omega)
  · exact absurd (cnt_two hy hl (gone y hy (by omega)) (gone l hl h0) hne) (by omega)
theorem Fw.hold (F : Fw n cs m t hs D lf P) (ok : FOk n cs) (hc : cs[i]? = some c) (h1 : cnt (D i) c < 2) (hl : l ∈ c) (h0 : wo t l = 0) : Fw n cs m (setL t l) (hs ++ [l]) D lf (fun j => P j ∨ j = i) := by
  have okl := ok c (List.mem_of_getElem? hc) l hl
  have up := setL_up F.st.tv okl h0
  refine ⟨F.st.hold okl h0, F.up.trans up, F.low.step (List.mem_of_getElem? hc) hl okl F.st.tv (F.others ok hc h1 hl (by omega)), F.len, F.left, fun j x hx => List.mem_append_left _ (F.sub j x hx), fun j d hj hd => ?_⟩
  rcases hj with hj | rfl
  · rcases F.set j d hj hd with k | ⟨x, hx, k⟩
    · exact .inl k
    · exact .inr ⟨x, hx, by rw [up.wo (by omega), k]⟩
  · rw [hc] at hd; injection hd with hd; subst hd
    exact .inr ⟨l, hl, setL_one F.st.tv okl⟩
theorem Fw.bad (F : Fw n cs m t hs D lf P) (hc : cs[i]? = some c) (hot : ∀ y ∈ c, wo t y = -1) : Ans n cs m none := F.low.bad (List.mem_of_getElem? hc) hot
theorem Fw.dec (F : Fw n cs m t hs D lf P) (hc : cs[i]? = some c) (hn : c.Nodup) (hm : -h ∈ c) (hd : h ∉ D i) (hh : h ∈ hs) :
    Fw n cs m t hs (fun j => if j = i then D i ++ [h] else D j) (lf.set i ((cnt (D i) c : Int) - 1)) (fun j => P j ∧ j ≠ i) := by
  refine ⟨F.st, F.up, F.low, by rw [List.length_set]; exact F.len, fun j d hj => ?_, fun j x hx => ?_, fun j d hj hd' => ?_⟩
  · by_cases e : j = i
    · subst e
      rw [hc] at hj; injection hj with hj; subst hj
      have := cnt_yes hn hm hd
      have hlt := (List.getElem?_eq_some_iff.1 hc).1
      rw [List.getElem?_set_self (by rw [F.len]; exact hlt)]
      simp only [if_true]
      congr 1; omega
    · rw [List.getElem?_set_ne (fun k => e k.symm)]; simp only [if_neg e]; exact F.left j d hj
  · by_cases e : j = i
    · subst e
      simp only [if_true] at hx
      rcases List.mem_append.1 hx with hx | hx
      · exact F.sub j x hx
      · simp at hx; subst hx; exact hh
    · simp only [if_neg e] at hx; exact F.sub j x hx
  · simp only [if_neg hj.2]; exact F.set j d hj.1 hd'
theorem Fw.done (F : Fw n cs m t hs (fun _ => hs) lf (fun _ => True)) (ok : FOk n cs) (hn : ∀ c ∈ cs, c.Nodup) : Ans n cs m (some t) := by
  refine ⟨F.st.tv, F.up, fun c hc => ?_, F.low⟩
  obtain ⟨i, hi⟩ := List.mem_iff_getElem?.1 hc
  rcases F.set i c trivial hi with k | ⟨x, hx, k⟩
  · obtain ⟨x, hx, y, hy, hne, kx, ky⟩ := two_of_cnt (hn c hc) k
    have live : ∀ z ∈ c, -z ∉ hs → wo t z = 0 ∨ wo t z = 1 := fun z hz hzn => by
      rcases wo_cases F.st.tv z with e | e | e
      · have okz := ok c hc z hz
        exact absurd (F.st.all (-z) okz.neg (by rw [wo_opp okz]; omega)) hzn
      · exact .inl e
      · exact .inr e
    rcases live x hx kx with ex | ex
    · rcases live y hy ky with ey | ey
      · exact .inr ⟨x, hx, y, hy, hne, ex, ey⟩
      · exact .inl ⟨y, hy, ey⟩
    · exact .inl ⟨x, hx, ex⟩
  · exact .inl ⟨x, hx, k⟩
end

/-! ### Which clauses have a literal -/
def wl (cs : List (List Int)) (x : Int) : List Nat := (List.range cs.length).filter fun i => (cs[i]?.getD []).contains x
theorem wl_snoc (cs : List (List Int)) (c : List Int) (x : Int) : wl (cs ++ [c]) x = wl cs x ++ if x ∈ c then [cs.length] else [] := by
  unfold wl
  rw [List.length_append, List.length_singleton, List.range_succ, List.filter_append]
  congr 1
  · refine List.filter_congr fun i hi => ?_
    rw [List.getElem?_append_left (by simpa using hi)]
  · by_cases h : x ∈ c <;> simp [h]
theorem wl_mem {cs : List (List Int)} {x : Int} {i : Nat} : i ∈ wl cs x ↔ ∃ c, cs[i]? = some c ∧ x ∈ c := by
  unfold wl
  rw [List.mem_filter, List.mem_range]
  constructor
  · rintro ⟨hi, h⟩
    rw [List.getElem?_eq_getElem hi] at h ⊢
    exact ⟨_, rfl, by simpa using h⟩
  · rintro ⟨c, hc, hx⟩
    exact ⟨(List.getElem?_eq_some_iff.1 hc).1, by rw [hc]; simpa using hx⟩
theorem wl_nodup (cs : List (List Int)) (x : Int) : (wl cs x).Nodup := List.nodup_range.sublist List.filter_sublist
/-- A literal's place, and back. -/
def pl (l : Int) : Nat := if l < 0 then (2 * (-l) - 1).toNat else (2 * l - 2).toNat
def un (q : Nat) : Int := if q % 2 = 0 then ((q / 2 : Nat) : Int) + 1 else -(((q / 2 : Nat) : Int) + 1)
theorem un_pl {n : Nat} {l : Int} (h : LOk n l) : un (pl l) = l ∧ pl l < 2 * n := by
  obtain ⟨i, hi, rfl | rfl⟩ := h.form
  · have e : pl ((i : Int) + 1) = 2 * i := by unfold pl; rw [if_neg (by omega)]; omega
    rw [e]; unfold un; rw [if_pos (by omega)]
    exact ⟨by congr 2; omega, by omega⟩
  · have e : pl (-((i : Int) + 1)) = 2 * i + 1 := by unfold pl; rw [if_pos (by omega)]; omega
    rw [e]; unfold un; rw [if_neg (by omega)]
    exact ⟨by congr 3; omega, by omega⟩
theorem pl_un (q : Nat) : pl (un q) = q := by
  unfold un
  split
  · unfold pl; rw [if_neg (by omega)]; omega
  · unfold pl; rw [if_pos (by omega)]; omega
/-- Mid in taking in a clause. -/
def wrow (cs : List (List Int)) (l : List Int) (q : Nat) : List Nat := wl cs (un q) ++ if un q ∈ l then [cs.length] else []
theorem wrow_nil (cs : List (List Int)) (q : Nat) : wrow cs [] q = wl cs (un q) := by unfold wrow; simp
theorem wrow_all (cs : List (List Int)) (c : List Int) (q : Nat) : wrow cs c q = wl (cs ++ [c]) (un q) := (wl_snoc cs c (un q)).symm
theorem wrow_step {n : Nat} {cs : List (List Int)} {l : List Int} {x : Int} (ok : LOk n x) (hx : x ∉ l) (q : Nat) : wrow cs (l ++ [x]) q = if q = pl x then wl cs x ++ [cs.length] else wrow cs l q := by
  unfold wrow
  by_cases e : q = pl x
  · subst e; rw [(un_pl ok).1]; simp
  · rw [if_neg e]
    have : un q ≠ x := fun k => e (by rw [← k, pl_un])
    simp [this]
theorem wrow_at {n : Nat} {cs : List (List Int)} {l : List Int} {x : Int} (ok : LOk n x) (hx : x ∉ l) : wrow cs l (pl x) = wl cs x := by
  unfold wrow; rw [(un_pl ok).1]; simp [hx]

/-! ### What holds from the first -/
def hs0 (m : List Int) : List Int := (List.range m.length).flatMap fun (i : Nat) => if m[i]?.getD 0 = 0 then [] else [((i : Int) + 1) * m[i]?.getD 0]
theorem hs0_snoc (m : List Int) (x : Int) : hs0 (m ++ [x]) = hs0 m ++ if x = 0 then [] else [((m.length : Int) + 1) * x] := by
  unfold hs0
  rw [List.length_append, List.length_singleton, List.range_succ, List.flatMap_append]
  congr 1
  · have : ∀ i ∈ List.range m.length, (if (m ++ [x])[i]?.getD 0 = 0 then [] else [((i : Int) + 1) * (m ++ [x])[i]?.getD 0]) = (if m[i]?.getD 0 = 0 then [] else [((i : Int) + 1) * m[i]?.getD 0] : List Int) := fun i hi => by
      rw [List.getElem?_append_left (by simpa using hi)]
    rw [List.flatMap_def, List.flatMap_def, List.map_congr_left this]
  · simp
theorem wo_snoc {m : List Int} {x l : Int} (h : LOk m.length l) : wo (m ++ [x]) l = wo m l := by
  obtain ⟨i, hi, rfl | rfl⟩ := h.form
  · rw [wo_pos, wo_pos, List.getElem?_append_left hi]
  · rw [wo_neg, wo_neg, List.getElem?_append_left hi]
theorem hs0_hs (m : List Int) : (∀ (i : Nat) (x : Int), m[i]? = some x → x = -1 ∨ x = 0 ∨ x = 1) → Hs m.length m (hs0 m) := by
  refine snoc_ind (p := fun m => (∀ (i : Nat) (x : Int), m[i]? = some x → x = -1 ∨ x = 0 ∨ x = 1) → Hs m.length m (hs0 m)) (fun _ => ⟨⟨rfl, fun i x h => by simp at h⟩, fun l h => by simp [hs0] at h, fun l h _ => by unfold LOk at h; simp at h; omega, by simp [hs0], by simp [hs0]⟩) (fun m x ih hv => ?_) m
  show Hs _ _ _
  have H := ih fun i y hy => hv i y (by rw [List.getElem?_append_left (List.getElem?_eq_some_iff.1 hy).1]; exact hy)
  have hx := hv m.length x (by simp)
  have hlen : (m ++ [x]).length = m.length + 1 := by simp
  have tv : TV (m ++ [x]).length (m ++ [x]) := ⟨rfl, hv⟩
  rw [hs0_snoc]
  have up : ∀ l, LOk m.length l → LOk (m ++ [x]).length l := fun l h => by unfold LOk at *; rw [hlen]; omega
  have lst : wo (m ++ [x]) ((m.length : Int) + 1) = x := by rw [wo_pos]; simp
  have lst' : wo (m ++ [x]) (-((m.length : Int) + 1)) = -x := by rw [wo_neg]; simp
  have old : ∀ l, LOk (m ++ [x]).length l → LOk m.length l ∨ l = (m.length : Int) + 1 ∨ l = -((m.length : Int) + 1) := fun l h => by unfold LOk at *; rw [hlen] at h; omega
  have cntx : (m ++ [x]).count 0 = m.count 0 + if x = 0 then 1 else 0 := by
    rw [List.count_append]; congr 1
    by_cases e : x = 0 <;> simp [e]
  have hl := H.len
  rcases hx with rfl | rfl | rfl
  · have e : ((m.length : Int) + 1) * -1 = -((m.length : Int) + 1) := by omega
    rw [if_neg (by decide), e]
    rw [if_neg (by decide)] at cntx
    refine ⟨tv, fun l h => ?_, fun l h h1 => ?_, ?_, ?_⟩
    · rcases List.mem_append.1 h with h | h
      · exact ⟨up l (H.ok l h).1, by rw [wo_snoc (H.ok l h).1]; exact (H.ok l h).2⟩
      · simp at h; subst h; exact ⟨by unfold LOk; rw [hlen]; omega, by rw [lst']; rfl⟩
    · rcases old l h with k | rfl | rfl
      · rw [wo_snoc k] at h1; exact List.mem_append_left _ (H.all l k h1)
      · rw [lst] at h1; cases h1
      · simp
    · refine List.nodup_append.2 ⟨H.once, by simp, fun y hy z hz e => ?_⟩
      simp at hz; subst e; subst hz; have := (H.ok _ hy).1; unfold LOk at this; omega
    · rw [List.length_append, cntx, hlen]; simp; omega
  · rw [if_pos rfl, List.append_nil]
    rw [if_pos rfl] at cntx
    refine ⟨tv, fun l h => ⟨up l (H.ok l h).1, by rw [wo_snoc (H.ok l h).1]; exact (H.ok l h).2⟩, fun l h h1 => ?_, H.once, by rw [cntx, hlen]; omega⟩
    rcases old l h with k | rfl | rfl
    · rw [wo_snoc k] at h1; exact H.all l k h1
    · rw [lst] at h1; cases h1
    · rw [lst'] at h1; cases h1
  · rw [if_neg (by decide), Int.mul_one]
    rw [if_neg (by decide)] at cntx
    refine ⟨tv, fun l h => ?_, fun l h h1 => ?_, ?_, ?_⟩
    · rcases List.mem_append.1 h with h | h
      · exact ⟨up l (H.ok l h).1, by rw [wo_snoc (H.ok l h).1]; exact (H.ok l h).2⟩
      · simp at h; subst h; exact ⟨by unfold LOk; rw [hlen]; omega, lst⟩
    · rcases old l h with k | rfl | rfl
      · rw [wo_snoc k] at h1; exact List.mem_append_left _ (H.all l k h1)
      · simp
      · rw [lst'] at h1; cases h1
    · refine List.nodup_append.2 ⟨H.once, by simp, fun y hy z hz e => ?_⟩
      simp at hz; subst e; subst hz; have := (H.ok _ hy).1; unfold LOk at this; omega
    · rw [List.length_append, cntx, hlen]; simp; omega
/-- Where going through begins. -/
theorem Fw.start {n : Nat} {cs : List (List Int)} {m : List Int} (hm : TV n m) : Fw n cs m m (hs0 m) (fun _ => []) (cs.map fun c => (c.length : Int)) (fun _ => False) := by
  have H := hs0_hs m hm.2
  rw [hm.1] at H
  refine ⟨H, Up.refl m, fun u _ h _ => h, by simp, fun i c hc => ?_, fun i x hx => (by cases hx), fun i c h => h.elim⟩
  rw [cnt_nil, List.getElem?_map, hc]; rfl
end Go.Proofs.YtpmdnbdmocdngaaGreat

namespace Go.Proofs.YtpmdnbdmocdngaaGreat
open Go.ChangeShapes Go.WideShapes Go.ChangeAt Go.RowKit
set_option linter.unusedVariables false

/-! ### Memory -/
/-- A slice that reads as a list. -/
structure SeqAt {α : Type} (v : α → Value) (w : World) (A : Option Addr) (zs : List α) : Prop where
  get : ∀ (i : Nat) (z : α), zs[i]? = some z → ∃ a, A = some a ∧ w.cell? (a.add i) = some (v z)
theorem lt_of_cell {w : World} {a : Addr} {v : Value} (h : w.cell? a = some v) : a.block < w.heap.size := by
  unfold World.cell? at h
  cases hh : w.heap[a.block]? with
  | none => rw [hh] at h; cases h
  | some o => exact (Array.getElem?_eq_some_iff.1 hh).1
theorem add_block (a : Addr) (n : Nat) : (a.add n).block = a.block := by unfold Addr.add; split <;> rfl
theorem SeqAt.keep {α : Type} {v : α → Value} {w w' : World} {A : Option Addr} {zs : List α} (h : SeqAt v w A zs) (b : Below w.heap.size w w') : SeqAt v w' A zs :=
  ⟨fun i z hz => by
    obtain ⟨a, ha, hc⟩ := h.get i z hz
    exact ⟨a, ha, (b.cell (p := a.add i) (lt_of_cell hc)).trans hc⟩⟩
theorem SeqAt.nil {α : Type} (v : α → Value) (w : World) : SeqAt v w none [] := ⟨fun i z h => by simp at h⟩
/-- A slice of slices of numbers that reads as a formula. -/
structure FormAt (w : World) (A : Option Addr) (f : List (List Int)) : Prop where
  get : ∀ (i : Nat) (c : List Int), f[i]? = some c → ∃ a B cap, A = some a ∧ w.cell? (a.add i) = some (.slice B c.length cap) ∧ SeqAt (Value.int .i64) w B c ∧ c.length ≤ 9223372036854775807
  lt : ∀ a, A = some a → a.block < w.heap.size
  wf : ∀ c ∈ f, ∀ l ∈ c, Wf l
theorem FormAt.keep {w w' : World} {A : Option Addr} {f : List (List Int)} (h : FormAt w A f) (b : Below w.heap.size w w') : FormAt w' A f :=
  ⟨fun i c hc => by
    obtain ⟨a, B, cap, ha, hce, hs, hl⟩ := h.get i c hc
    exact ⟨a, B, cap, ha, (b.cell (p := a.add i) (by rw [add_block]; exact h.lt a ha)).trans hce, hs.keep b, hl⟩, fun a ha => Nat.lt_of_lt_of_le (h.lt a ha) b.size, h.wf⟩

/-! ### number, holds -/
theorem least_wrap : wrap64 9223372036854775808 = -9223372036854775808 := by simp [wrap64]
theorem ret_bool {a b : Bool} (h : a = b) : Ending.returned (.bool a) = .returned (.bool b) := by rw [h]
theorem ret_int {k : IntKind} {a b : Int} (h : a = b) : Ending.returned (.int k a) = .returned (.int k b) := by rw [h]
theorem number_any (l : Int) (W : World) (hw : Wf l) : Calls Tryz.prog 54 #[.int .i64 l] W fun e W' => e = .returned (.int .i64 (numb l)) ∧ W = W' := by
  rcases numb_cases hw with ⟨rfl, e⟩ | ⟨h1, ⟨h2, e⟩ | ⟨h2, e⟩⟩
  all_goals
    rw [e]
    have h3 := hw.2
    clear hw e
    have hl := least_wrap
    go_enter Tryz.func54, Tryz.ntmps54
    go_wp2
    go_ret
    exact ⟨by first | rfl | exact ret_int hl, rfl⟩
theorem holds_one (m : List Bool) (l : Int) (k : Nat) (b : Bool) (e : numb l = (k : Int) + 1) (hb : m[k]?.getD false = b) : holdsM m l = (b == decide (0 < l)) := by
  unfold holdsM; rw [if_neg (by omega), e, show ((k : Int) + 1 - 1).toNat = k by omega, hb]
theorem rholds_least (A : Option Addr) (m : List Bool) (cap : Nat) (W : World) (hl : m.length ≤ 9223372036854775807) :
    Calls Tryz.prog 26 #[.int .i64 (-9223372036854775808), .slice A m.length cap] W fun e W' => e = .returned (.bool (holdsM m (-9223372036854775808))) ∧ W = W' := by
  have HE := Lib.hid (show holdsM m (-9223372036854775808) = false by unfold holdsM; rw [if_pos (by decide)])
  have hw := least_wrap
  go_enter Tryz.func26, Tryz.ntmps26
  go_wp2
  go_ret
  exact ⟨by rw [HE.out]; (first | done | rfl), rfl⟩
set_option maxHeartbeats 800000 in
theorem rholds_any (l : Int) (A : Option Addr) (m : List Bool) (cap : Nat) (W : World) (hw : Wf l) (hm : SeqAt Value.bool W A m) (hl : m.length ≤ 9223372036854775807) :
    Calls Tryz.prog 26 #[.int .i64 l, .slice A m.length cap] W fun e W' => e = .returned (.bool (holdsM m l)) ∧ W = W' := by
  rcases numb_cases hw with ⟨rfl, _⟩ | ⟨h1, ⟨h2, h3⟩ | ⟨h2, h3⟩⟩
  · exact rholds_least A m cap W hl
  · have h4 : l ≤ 9223372036854775807 := hw.2
    clear hw
    by_cases h5 : l < 1
    · have HE := Lib.hid (show holdsM m l = false by unfold holdsM; rw [if_pos (by omega)])
      clear hm h3
      obtain rfl : l = 0 := by omega
      clear h1 h2 h4 h5
      go_enter Tryz.func26, Tryz.ntmps26
      go_wp2
      go_ret
      exact ⟨by rw [HE.out]; (first | done | rfl | (refine ret_bool ?_; ((try simp [*]) <;> (try omega)))), rfl⟩
    have h6 : 1 ≤ l := by omega
    have h7 : 0 < l := by omega
    by_cases h8 : l ≤ (m.length : Int)
    · obtain ⟨b, hb⟩ : ∃ b, m[l.toNat - 1]? = some b := ⟨_, List.getElem?_eq_getElem (by omega)⟩
      obtain ⟨a, rfl, hc⟩ := hm.get _ b hb
      have HE := Lib.hid (holds_one m l (l.toNat - 1) b (by omega) (by rw [hb]; rfl))
      clear h3 hb hm h1 h2 h5
      go_enter Tryz.func26, Tryz.ntmps26
      go_wp2
      go_ret
      exact ⟨by rw [HE.out]; (first | done | rfl | (refine ret_bool ?_; ((try simp [*]) <;> (try omega)))), rfl⟩
    · have HE := Lib.hid (holds_one m l (l.toNat - 1) false (by omega) (by rw [List.getElem?_eq_none (by omega)]; rfl))
      clear h3 hm h1 h2 h5
      go_enter Tryz.func26, Tryz.ntmps26
      go_wp2
      go_ret
      exact ⟨by rw [HE.out]; (first | done | rfl | (refine ret_bool ?_; ((try simp [*]) <;> (try omega)))), rfl⟩
  · clear hw
    have h6 : 1 ≤ -l := by omega
    by_cases h8 : -l ≤ (m.length : Int)
    · obtain ⟨b, hb⟩ : ∃ b, m[(-l).toNat - 1]? = some b := ⟨_, List.getElem?_eq_getElem (by omega)⟩
      obtain ⟨a, rfl, hc⟩ := hm.get _ b hb
      have HE := Lib.hid (holds_one m l ((-l).toNat - 1) b (by omega) (by rw [hb]; rfl))
      clear h3 hb hm
      go_enter Tryz.func26, Tryz.ntmps26
      go_wp2
      go_ret
      exact ⟨by rw [HE.out]; (first | done | rfl | (refine ret_bool ?_; ((try simp [*]) <;> (try omega)))), rfl⟩
    · have HE := Lib.hid (holds_one m l ((-l).toNat - 1) false (by omega) (by rw [List.getElem?_eq_none (by omega)]; rfl))
      clear h3 hm
      go_enter Tryz.func26, Tryz.ntmps26
      go_wp2
      go_ret
      exact ⟨by rw [HE.out]; (first | done | rfl | (refine ret_bool ?_; ((try simp [*]) <;> (try omega)))), rfl⟩
end Go.Proofs.YtpmdnbdmocdngaaGreat

namespace Go.Proofs.YtpmdnbdmocdngaaGreat
open Go.ChangeShapes Go.WideShapes Go.ChangeAt Go.RowKit
set_option linter.unusedVariables false

/-! ### The library's ContainsFunc at Eval's closure -/
def IdxPost (r : Bool) (w : World) (e : Ending) (w' : World) : Prop := ∃ k : Int, e = .returned (.int .i64 k) ∧ decide (0 ≤ k) = r ∧ w = w'
theorem any_take {p : Int → Bool} {c : List Int} {k : Nat} {l : Int} (h : c[k]? = some l) : (c.take (k + 1)).any p = ((c.take k).any p || p l) := by
  have hk := (List.getElem?_eq_some_iff.1 h).1
  rw [List.take_succ_eq_append_getElem hk, List.any_append, (List.getElem?_eq_some_iff.1 h).2]; simp
theorem any_of {p : Int → Bool} {c : List Int} {k : Nat} {l : Int} (h : c[k]? = some l) (hp : p l = true) : c.any p = true :=
  List.any_eq_true.2 ⟨l, List.mem_of_getElem? h, hp⟩
/-! ### Eval -/
theorem eval_take {m : List Bool} {f : List (List Int)} {k : Nat} {c : List Int} (h : f[k]? = some c) : evalM m (f.take (k + 1)) = (evalM m (f.take k) && evalC m c) := by
  have hk := (List.getElem?_eq_some_iff.1 h).1
  unfold evalM
  rw [List.take_succ_eq_append_getElem hk, List.all_append, (List.getElem?_eq_some_iff.1 h).2]; simp
theorem eval_no {m : List Bool} {f : List (List Int)} {k : Nat} {c : List Int} (h : f[k]? = some c) (hp : evalC m c = false) : evalM m f = false := by
  unfold evalM; rw [List.all_eq_false]; exact ⟨c, List.mem_of_getElem? h, by simp [hp]⟩
set_option maxHeartbeats 800000 in
theorem reval_any (A : Option Addr) (f : List (List Int)) (fcap : Nat) (B : Option Addr) (m : List Bool) (cap : Nat) (w : World) (hf : FormAt w A f) (hn : f.length ≤ 9223372036854775807) (hm : SeqAt Value.bool w B m) (hl : m.length ≤ 9223372036854775807) :
    Calls Tryz.prog 13 #[.slice A f.length fcap, .slice B m.length cap] w fun e w' => e = .returned (.bool (evalM m f)) ∧ w = w' := by
  have HF := Lib.hid hf
  have HM := Lib.hid hm
  clear hf hm
  go_enter Tryz.func13, Tryz.ntmps13
  go_wp2_with fail
  go_loop [5] (fun i => ∃ k : Nat, k ≤ f.length ∧ i = .int .i64 k ∧ Hid (evalM m (f.take k) = true)) (fun i => f.length - (intOf i).toNat)
  case atStart => exact ⟨0, by omega, rfl, by simp [Hid, evalM]⟩
  case round =>
    obtain ⟨k, hk, rfl, H⟩ := hrel
    by_cases hlt : k < f.length
    · obtain ⟨c, hz⟩ : ∃ c, f[k]? = some c := ⟨_, List.getElem?_eq_getElem hlt⟩
      obtain ⟨a, C, ccap, rfl, hcell, hcs, hcl⟩ := HF.out.get k c hz
      have HS := Lib.hid hcs
      have HW := Lib.hid (HF.out.wf c (List.mem_of_getElem? hz))
      have HZ := Lib.hid hz
      clear hcs hz
      go_wp2_with fail
      go_loop [6, 7] (fun o i => ∃ j : Nat, j ≤ c.length ∧ i = .int .i64 j ∧ o = .bool ((c.take j).any (holdsM m))) (fun o i => c.length - (intOf i).toNat)
      case atStart => exact ⟨0, by omega, rfl, rfl⟩
      case round =>
        obtain ⟨j, hj, rfl, rfl⟩ := hrel
        by_cases hjl : j < c.length
        · obtain ⟨l, hz⟩ : ∃ l, c[j]? = some l := ⟨_, List.getElem?_eq_getElem hjl⟩
          obtain ⟨aC, rfl, hcc⟩ := HS.out.get j l hz
          have ch := rholds_any l B m cap w (HW.out l (List.mem_of_getElem? hz)) HM.out hl
          have HE := Lib.hid (any_take (p := holdsM m) hz)
          clear hz
          cases ho : (c.take j).any (holdsM m) with
          | true =>
            rw [ho] at HE
            clear ho ch
            go_wp2_with fail
            go_round
            case rel => exact ⟨j + 1, by omega, by go_num, by rw [HE.out]; rfl⟩
            case measure => simp [intOf]; omega
          | false =>
            rw [ho] at HE
            clear ho
            generalize holdsM m l = r at ch HE
            go_wp2_with (go_at_call 26; ((with_reducible refine ch.mono ?_); rintro e w' ⟨rfl, rfl⟩))
            go_round
            case rel => exact ⟨j + 1, by omega, by go_num, by rw [HE.out]; rfl⟩
            case measure => simp [intOf]; omega
        · obtain rfl : j = c.length := by omega
          have e : (c.take c.length).any (holdsM m) = evalC m c := by rw [List.take_length]; rfl
          rw [e]
          clear e
          cases hr : evalC m c with
          | true =>
            have HE := Lib.hid (show evalM m (f.take (k + 1)) = true by rw [eval_take HZ.out, H.out, hr]; rfl)
            clear hr
            go_wp2_with fail
            go_round
            case rel => exact ⟨k + 1, by omega, by go_num, HE.out⟩
            case measure => simp [intOf]; omega
          | false =>
            have HE := Lib.hid (eval_no HZ.out hr)
            clear hr
            go_wp2_with fail
            go_ret
            exact ⟨by rw [HE.out]; (first | done | rfl), rfl⟩
    · obtain rfl : k = f.length := by omega
      have HE := Lib.hid (show evalM m f = true by have := H.out; rw [List.take_length] at this; exact this)
      clear H
      go_wp2_with fail
      go_ret
      exact ⟨by rw [HE.out]; (first | done | rfl), rfl⟩
end Go.Proofs.YtpmdnbdmocdngaaGreat

namespace Go.Proofs.YtpmdnbdmocdngaaGreat
open Go.ChangeShapes Go.WideShapes Go.ChangeAt Go.RowKit
set_option linter.unusedVariables false

def okF (n : Int) (f : List (List Int)) : Bool := f.all fun c => c.all (okL n)
theorem may_of {n : Int} {f : List (List Int)} (h0 : 0 ≤ n) (h1 : n ≤ 65536) : mayM n f = okF n f := by unfold mayM okF; simp [h0, h1]
theorem may_out {n : Int} {f : List (List Int)} (h : ¬ (0 ≤ n ∧ n ≤ 65536)) : mayM n f = false := by unfold mayM; rw [decide_eq_false h]; rfl
theorem all_take {p : Int → Bool} {c : List Int} {k : Nat} {l : Int} (h : c[k]? = some l) : (c.take (k + 1)).all p = ((c.take k).all p && p l) := by
  have hk := (List.getElem?_eq_some_iff.1 h).1
  rw [List.take_succ_eq_append_getElem hk, List.all_append, (List.getElem?_eq_some_iff.1 h).2]; simp
theorem okF_take {n : Int} {f : List (List Int)} {k : Nat} {c : List Int} (h : f[k]? = some c) : okF n (f.take (k + 1)) = (okF n (f.take k) && c.all (okL n)) := by
  have hk := (List.getElem?_eq_some_iff.1 h).1
  unfold okF
  rw [List.take_succ_eq_append_getElem hk, List.all_append, (List.getElem?_eq_some_iff.1 h).2]; simp
theorem okF_no {n : Int} {f : List (List Int)} {k j : Nat} {c : List Int} {l : Int} (h : f[k]? = some c) (g : c[j]? = some l) (hl : okL n l = false) : okF n f = false := by
  unfold okF; rw [List.all_eq_false]
  refine ⟨c, List.mem_of_getElem? h, ?_⟩
  rw [Bool.not_eq_true, List.all_eq_false]
  exact ⟨l, List.mem_of_getElem? g, by rw [hl]; simp⟩
set_option maxHeartbeats 1600000 in
theorem may_any (n : Int) (A : Option Addr) (f : List (List Int)) (fcap : Nat) (w : World) (hn : Wf n) (hf : FormAt w A f) (hl : f.length ≤ 9223372036854775807) :
    Calls Tryz.prog 28 #[.int .i64 n, .slice A f.length fcap] w fun e w' => e = .returned (.bool (mayM n f)) ∧ w = w' := by
  have HF := Lib.hid hf
  clear hf
  by_cases h0 : n < 0
  · have HE := Lib.hid (may_out (f := f) (n := n) (by omega))
    go_enter Tryz.func28, Tryz.ntmps28
    go_wp2_with fail
    go_ret
    exact ⟨by rw [HE.out]; (first | done | rfl), rfl⟩
  by_cases h1 : 65536 < n
  · have h0' : 0 ≤ n := by omega
    have HE := Lib.hid (may_out (f := f) (n := n) (by omega))
    clear h0
    go_enter Tryz.func28, Tryz.ntmps28
    go_wp2_with fail
    go_ret
    exact ⟨by rw [HE.out]; (first | done | rfl), rfl⟩
  have h2 : 0 ≤ n := by omega
  have h3 : n ≤ 65536 := by omega
  clear h0 h1 hn
  rw [may_of h2 h3]
  go_enter Tryz.func28, Tryz.ntmps28
  go_wp2_with fail
  go_loop [18] (fun i => ∃ k : Nat, k ≤ f.length ∧ i = .int .i64 k ∧ Hid (okF n (f.take k) = true)) (fun i => f.length - (intOf i).toNat)
  case atStart => exact ⟨0, by omega, rfl, by simp [Hid, okF]⟩
  case round =>
    obtain ⟨k, hk, rfl, H⟩ := hrel
    by_cases hlt : k < f.length
    · obtain ⟨c, hz⟩ : ∃ c, f[k]? = some c := ⟨_, List.getElem?_eq_getElem hlt⟩
      obtain ⟨a, C, ccap, rfl, hcell, hcs, hcl⟩ := HF.out.get k c hz
      have HS := Lib.hid hcs
      have HW := Lib.hid (HF.out.wf c (List.mem_of_getElem? hz))
      have HZ := Lib.hid hz
      clear hcs hz
      go_wp2_with fail
      go_loop [24] (fun i => ∃ j : Nat, j ≤ c.length ∧ i = .int .i64 j ∧ Hid ((c.take j).all (okL n) = true)) (fun i => c.length - (intOf i).toNat)
      case atStart => exact ⟨0, by omega, rfl, by simp [Hid]⟩
      case round =>
        obtain ⟨j, hj, rfl, G⟩ := hrel
        by_cases hjl : j < c.length
        · obtain ⟨l, hz⟩ : ∃ l, c[j]? = some l := ⟨_, List.getElem?_eq_getElem hjl⟩
          obtain ⟨aC, rfl, hcc⟩ := HS.out.get j l hz
          have ch := number_any l w (HW.out l (List.mem_of_getElem? hz))
          have HL := Lib.hid (show okL n l = decide (1 ≤ numb l ∧ numb l ≤ n) from rfl)
          have GZ := Lib.hid hz
          clear hz
          generalize numb l = v at ch HL
          by_cases v1 : v < 1
          · have HE := Lib.hid (okF_no HZ.out GZ.out (by rw [HL.out]; exact decide_eq_false (by omega)))
            go_wp2_with (go_at_call 54; ((with_reducible refine ch.mono ?_); rintro e w' ⟨rfl, rfl⟩))
            go_ret
            exact ⟨by rw [HE.out]; (first | done | rfl), rfl⟩
          · have v1' : 1 ≤ v := by omega
            clear v1
            by_cases v2 : n < v
            · have HE := Lib.hid (okF_no HZ.out GZ.out (by rw [HL.out]; exact decide_eq_false (by omega)))
              go_wp2_with (go_at_call 54; ((with_reducible refine ch.mono ?_); rintro e w' ⟨rfl, rfl⟩))
              go_ret
              exact ⟨by rw [HE.out]; (first | done | rfl), rfl⟩
            · have v2' : v ≤ n := by omega
              have HE := Lib.hid (show (c.take (j + 1)).all (okL n) = true by rw [all_take GZ.out, G.out, HL.out, decide_eq_true ⟨v1', v2'⟩]; rfl)
              clear v2
              go_wp2_with (go_at_call 54; ((with_reducible refine ch.mono ?_); rintro e w' ⟨rfl, rfl⟩))
              go_round
              case rel => exact ⟨j + 1, by omega, by go_num, HE.out⟩
              case measure => simp [intOf]; omega
        · obtain rfl : j = c.length := by omega
          have HE := Lib.hid (show okF n (f.take (k + 1)) = true by rw [okF_take HZ.out, H.out]; have := G.out; rw [List.take_length] at this; rw [this]; rfl)
          clear G
          go_wp2_with fail
          go_round
          case rel => exact ⟨k + 1, by omega, by go_num, HE.out⟩
          case measure => simp [intOf]; omega
    · obtain rfl : k = f.length := by omega
      have HE := Lib.hid (show okF n f = true by have := H.out; rw [List.take_length] at this; exact this)
      clear H
      go_wp2_with fail
      go_ret
      exact ⟨by rw [HE.out]; (first | done | rfl), rfl⟩
set_option maxHeartbeats 1600000 in
theorem rmay_any (n : Int) (A : Option Addr) (f : List (List Int)) (fcap : Nat) (w : World) (hn : Wf n) (hf : FormAt w A f) (hl : f.length ≤ 9223372036854775807) :
    Calls Tryz.prog 11 #[.int .i64 n, .slice A f.length fcap] w fun e w' => e = .returned (.bool (mayM n f)) ∧ w = w' := by
  have HF := Lib.hid hf
  clear hf
  by_cases h0 : n < 0
  · have HE := Lib.hid (may_out (f := f) (n := n) (by omega))
    go_enter Tryz.func11, Tryz.ntmps11
    go_wp2_with fail
    go_ret
    exact ⟨by rw [HE.out]; (first | done | rfl), rfl⟩
  by_cases h1 : 65536 < n
  · have h0' : 0 ≤ n := by omega
    have HE := Lib.hid (may_out (f := f) (n := n) (by omega))
    clear h0
    go_enter Tryz.func11, Tryz.ntmps11
    go_wp2_with fail
    go_ret
    exact ⟨by rw [HE.out]; (first | done | rfl), rfl⟩
  have h2 : 0 ≤ n := by omega
  have h3 : n ≤ 65536 := by omega
  clear h0 h1 hn
  rw [may_of h2 h3]
  go_enter Tryz.func11, Tryz.ntmps11
  go_wp2_with fail
  go_loop [5] (fun i => ∃ k : Nat, k ≤ f.length ∧ i = .int .i64 k ∧ Hid (okF n (f.take k) = true)) (fun i => f.length - (intOf i).toNat)
  case atStart => exact ⟨0, by omega, rfl, by simp [Hid, okF]⟩
  case round =>
    obtain ⟨k, hk, rfl, H⟩ := hrel
    by_cases hlt : k < f.length
    · obtain ⟨c, hz⟩ : ∃ c, f[k]? = some c := ⟨_, List.getElem?_eq_getElem hlt⟩
      obtain ⟨a, C, ccap, rfl, hcell, hcs, hcl⟩ := HF.out.get k c hz
      have HS := Lib.hid hcs
      have HW := Lib.hid (HF.out.wf c (List.mem_of_getElem? hz))
      have HZ := Lib.hid hz
      clear hcs hz
      go_wp2_with fail
      go_loop [6] (fun i => ∃ j : Nat, j ≤ c.length ∧ i = .int .i64 j ∧ Hid ((c.take j).all (okL n) = true)) (fun i => c.length - (intOf i).toNat)
      case atStart => exact ⟨0, by omega, rfl, by simp [Hid]⟩
      case round =>
        obtain ⟨j, hj, rfl, G⟩ := hrel
        by_cases hjl : j < c.length
        · obtain ⟨l, hz⟩ : ∃ l, c[j]? = some l := ⟨_, List.getElem?_eq_getElem hjl⟩
          obtain ⟨aC, rfl, hcc⟩ := HS.out.get j l hz
          have hwl := HW.out l (List.mem_of_getElem? hz)
          have HL := Lib.hid (okL_ref h2 h3 hwl)
          have GZ := Lib.hid hz
          clear hz hwl
          by_cases l0 : l = 0
          · have HE := Lib.hid (okF_no HZ.out GZ.out (by have := HL.out; cases hh : okL n l <;> simp_all))
            subst l0
            go_wp2_with fail
            go_ret
            exact ⟨by rw [HE.out]; (first | done | rfl), rfl⟩
          · have l0' : (l == 0) = false := by simpa using l0
            by_cases v1 : n < l
            · have HE := Lib.hid (okF_no HZ.out GZ.out (by have := HL.out; cases hh : okL n l <;> simp_all))
              clear l0
              go_wp2_with fail
              go_ret
              exact ⟨by rw [HE.out]; (first | done | rfl), rfl⟩
            · have v1' : l ≤ n := by omega
              by_cases v2 : l < -n
              · have HE := Lib.hid (okF_no HZ.out GZ.out (by have := HL.out; cases hh : okL n l <;> simp_all))
                clear l0 v1
                go_wp2_with fail
                go_ret
                exact ⟨by rw [HE.out]; (first | done | rfl), rfl⟩
              · have v2' : -n ≤ l := by omega
                have HE := Lib.hid (show (c.take (j + 1)).all (okL n) = true by rw [all_take GZ.out, G.out, HL.out.2 ⟨l0, v1, v2⟩]; rfl)
                clear v2 v1 l0
                go_wp2_with fail
                go_round
                case rel => exact ⟨j + 1, by omega, by go_num, HE.out⟩
                case measure => simp [intOf]; omega
        · obtain rfl : j = c.length := by omega
          have HE := Lib.hid (show okF n (f.take (k + 1)) = true by rw [okF_take HZ.out, H.out]; have := G.out; rw [List.take_length] at this; rw [this]; rfl)
          clear G
          go_wp2_with fail
          go_round
          case rel => exact ⟨k + 1, by omega, by go_num, HE.out⟩
          case measure => simp [intOf]; omega
    · obtain rfl : k = f.length := by omega
      have HE := Lib.hid (show okF n f = true by have := H.out; rw [List.take_length] at this; exact this)
      clear H
      go_wp2_with fail
      go_ret
      exact ⟨by rw [HE.out]; (first | done | rfl), rfl⟩
/-! ### The law's own -/
end Go.Proofs.YtpmdnbdmocdngaaGreat
