/-
  What the laws of unit go by: answers reckoned by going through all truths, formulas and rows that a law lays itself, Run at them, the document's example, Small.
-/
import Derived.Test.YtigomnbcalpohaaUnitR
import Derived.Test.YtigomnbcalpohaaClauO
namespace Go.Proofs.Ytigomnbcalpohaa
open Go.ChangeShapes Go.WideShapes Go.ChangeAt Go.RowKit
set_option linter.unusedVariables false

/-! ### Answers, reckoned -/
def allT : Nat → List (List Int)
  | 0 => [[]]
  | n + 1 => (allT n).flatMap fun t => [-1 :: t, 0 :: t, 1 :: t]
theorem all_t : ∀ {n : Nat} {u : List Int}, TV n u → u ∈ allT n
  | 0, [], _ => by simp [allT]
  | 0, x :: u, h => by have := h.1; simp at this
  | n + 1, [], h => by have := h.1; simp at this
  | n + 1, x :: u, h => by
    have hu : TV n u := ⟨by have := h.1; simpa using this, fun i y hy => h.2 (i + 1) y (by simpa using hy)⟩
    have hx := h.2 0 x rfl
    unfold allT
    refine List.mem_flatMap.2 ⟨u, all_t hu, ?_⟩
    rcases hx with rfl | rfl | rfl <;> simp
def restCB (u c : List Int) : Bool := (c.any fun x => wo u x == 1) || c.any fun x => c.any fun y => x != y && wo u x == 0 && wo u y == 0
theorem rest_b {u c : List Int} : restCB u c = true ↔ RestC u c := by
  unfold restCB RestC
  simp only [Bool.or_eq_true, List.any_eq_true, Bool.and_eq_true, beq_iff_eq, bne_iff_ne]
  constructor
  · rintro (⟨x, a, b⟩ | ⟨x, a, y, b, ⟨e, d⟩, g⟩)
    · exact .inl ⟨x, a, b⟩
    · exact .inr ⟨x, a, y, b, e, d, g⟩
  · rintro (⟨x, a, b⟩ | ⟨x, a, y, b, e, d, g⟩)
    · exact .inl ⟨x, a, b⟩
    · exact .inr ⟨x, a, y, b, ⟨e, d⟩, g⟩
def upB (t u : List Int) : Bool := (List.range t.length).all fun i => t[i]?.getD 0 == 0 || u[i]? == t[i]?
theorem up_b {t u : List Int} : upB t u = true ↔ Up t u := by
  unfold upB Up
  simp only [List.all_eq_true, List.mem_range, Bool.or_eq_true, beq_iff_eq]
  constructor
  · intro h i x hx h0
    rcases h i (List.getElem?_eq_some_iff.1 hx).1 with e | e
    · rw [hx] at e; simp at e; exact absurd e h0
    · rw [e, hx]
  · intro h i hi
    have hx : t[i]? = some t[i] := List.getElem?_eq_getElem hi
    by_cases e : t[i] = 0
    · left; rw [hx]; simpa using e
    · right; rw [hx]; exact h i _ hx e
def ansB (n : Nat) (f : List (List Int)) (m : List Int) : Option (List Int) → Bool
  | some t => decide (t.length = n) && t.all (fun x => x == -1 || x == 0 || x == 1) && upB m t && f.all (restCB t) && (allT n).all fun u => !(upB m u && f.all (restCB u)) || upB t u
  | none => (allT n).all fun u => !(upB m u && f.all (restCB u))
theorem rest_all {f : List (List Int)} {u : List Int} : f.all (restCB u) = true ↔ Rest f u := by
  unfold Rest
  rw [List.all_eq_true]
  exact ⟨fun h c hc => rest_b.1 (h c hc), fun h c hc => rest_b.2 (h c hc)⟩
theorem ans_b {n : Nat} {f : List (List Int)} {m : List Int} : ∀ {r : Option (List Int)}, ansB n f m r = true → Ans n f m r
  | none, h => fun u hu hm hr => by
    have := List.all_eq_true.1 h u (all_t hu)
    rw [up_b.2 hm, rest_all.2 hr] at this; cases this
  | some t, h => by
    unfold ansB at h
    simp only [Bool.and_eq_true] at h
    obtain ⟨⟨⟨⟨h1, h2⟩, h3⟩, h4⟩, h5⟩ := h
    refine ⟨⟨of_decide_eq_true h1, fun i x hx => ?_⟩, up_b.1 h3, rest_all.1 h4, fun u hu hm hr => ?_⟩
    · have := List.all_eq_true.1 h2 x (List.mem_of_getElem? hx)
      simp at this; omega
    · have := List.all_eq_true.1 h5 u (all_t hu)
      rw [up_b.2 hm, rest_all.2 hr] at this
      exact up_b.1 (by simpa using this)

/-! ### What a law lays -/
theorem vals_at {α : Type} (v : α → Value) (w : World) (t : TypeId) (l : List α) : SeqAt v (w.alloc (.cells (l.map v).toArray t)) (some ⟨w.heap.size, 0, none⟩) l := by
  refine ⟨fun i z hz => ⟨_, rfl, ?_⟩⟩
  rw [add_at, World.cell?_alloc_at _ _ _ _ rfl]
  simp [hz]
theorem vals_g {α : Type} (v : α → Value) {w : World} (t : TypeId) (l : List α) {g : Nat} (hg : w.heap.size = g) : SeqAt v (w.alloc (.cells (l.map v).toArray t)) (some ⟨g, 0, none⟩) l := by subst hg; exact vals_at v w t l
def RowsOK (w : World) (news : List Value) (f : List (List Int)) : Prop := news.length = f.length ∧ ∀ (i : Nat) (c : List Int), f[i]? = some c → ∃ B cap, news[i]? = some (.slice B c.length cap) ∧ SeqAt (Value.int .i64) w B c ∧ c.length ≤ 9223372036854775807
theorem rows_form {w : World} {news : List Value} {f : List (List Int)} (t : TypeId) {g : Nat} (hg : w.heap.size = g) (h : RowsOK w news f) (hw : ∀ c ∈ f, ∀ l ∈ c, Wf l) : FormAt (w.alloc (.cells news.toArray t)) (some ⟨g, 0, none⟩) f := by
  subst hg
  refine ⟨fun i c hc => ?_, fun a ha => by injection ha with ha; subst ha; simp, hw⟩
  obtain ⟨B, cap, h1, h2, h3⟩ := h.2 i c hc
  refine ⟨_, B, cap, rfl, ?_, h2.keep ((Below.refl _ _).alloc (Nat.le_refl _) _), h3⟩
  rw [add_at, World.cell?_alloc_at _ _ _ _ rfl]
  simpa using h1
def rv : Nat → List (List Int) → List Value
  | _, [] => []
  | g, c :: f => .slice (some ⟨g, 0, none⟩) c.length c.length :: rv (g + 1) f
def lay : World → List (List Int) → World
  | w, [] => w
  | w, c :: f => lay (w.alloc (.cells (ints c).toArray 3)) f
theorem lay_ok : ∀ (f : List (List Int)) (w : World), (∀ c ∈ f, c.length ≤ 9223372036854775807) → Below w.heap.size w (lay w f) ∧ (lay w f).heap.size = w.heap.size + f.length ∧ RowsOK (lay w f) (rv w.heap.size f) f
  | [], w, _ => ⟨Below.refl _ _, rfl, rfl, fun i c hc => by simp at hc⟩
  | c :: f, w, h => by
    have hs : (w.alloc (.cells (ints c).toArray 3)).heap.size = w.heap.size + 1 := by simp
    obtain ⟨h1, h2, h3⟩ := lay_ok f (w.alloc (.cells (ints c).toArray 3)) (fun d hd => h d (by simp [hd]))
    rw [hs] at h1 h2 h3
    have b0 : Below w.heap.size w (w.alloc (.cells (ints c).toArray 3)) := (Below.refl _ _).alloc (Nat.le_refl _) _
    refine ⟨b0.trans (h1.mono (by omega)), by show (lay _ f).heap.size = _; rw [h2, List.length_cons]; omega, by show (rv _ f).length + 1 = _; rw [h3.1, List.length_cons], fun i d hd => ?_⟩
    cases i with
    | zero =>
      simp at hd; subst hd
      exact ⟨_, _, rfl, (vals_at _ w 3 c).keep (by rw [hs]; exact h1), h c (by simp)⟩
    | succ i => exact h3.2 i d (by simpa using hd)
theorem form_none (w : World) : FormAt w none [] := ⟨fun i c hc => by simp at hc, (fun a ha => by cases ha), (fun c hc => by cases hc)⟩
theorem sameB {A B : Option Addr} {a b : List Int} {acap bcap : Nat} {w : World} (ha : SeqAt (Value.int .i64) w A a) (hb : SeqAt (Value.int .i64) w B b) (la : a.length ≤ 9223372036854775807) (lb : b.length ≤ 9223372036854775807) {r : Bool} (hr : decide (a = b) = r) :
    Calls Try.prog 14 #[.slice A a.length acap, .slice B b.length bcap] w fun e w' => e = .returned (.bool r) ∧ Below w.heap.size w w' :=
  (same_any A B a b acap bcap w ha hb la lb).mono fun _ _ ⟨he, q, hw⟩ => ⟨by rw [he, hr], by rw [hw]; exact Below.draws (Below.refl _ _) q⟩
theorem below_alloc (w : World) (o : Obj) : Below w.heap.size w (w.alloc o) := (Below.refl _ _).alloc (Nat.le_refl _) o
theorem Below.plus {w w' : World} (h : Below w.heap.size w w') (o : Obj) : Below w.heap.size w (w'.alloc o) := h.alloc h.size o
theorem Below.on {w w' w'' : World} (h : Below w.heap.size w w') (k : Below w'.heap.size w' w'') : Below w.heap.size w w'' := h.trans (k.mono h.size)

/-! ### Run -/
def RunIs (r : Option (Option (List Int))) (w : World) (e : Ending) (w' : World) : Prop :=
  Below w.heap.size w w' ∧ match r with
  | none => e = .returned (.tuple #[.slice none 0 0, .bool false, .int .i64 1])
  | some none => e = .returned (.tuple #[.slice none 0 0, .bool true, .int .i64 0])
  | some (some t) => ∃ A cap, e = .returned (.tuple #[.slice A t.length cap, .bool false, .int .i64 0]) ∧ SeqAt (Value.int .i64) w' A t ∧ (A = none → t.length = 0 ∧ cap = 0)
/-- What is to come, if it is known what follows. -/
def Will (n : Int) (f : List (List Int)) (m : List Int) : Option (Option (List Int)) → Prop
  | none => fine n f m = false
  | some r => fine n f m = true ∧ Ans m.length f m r
theorem run_will {A M : Option Addr} {f : List (List Int)} {m : List Int} {fcap mcap : Nat} {n : Int} {W : World} {r : Option (Option (List Int))} (hn : Wf n) (hf : FormAt W A f) (hfl : f.length ≤ 100000) (hcl : ∀ c ∈ f, c.length ≤ 100000) (hm : SeqAt (Value.int .i64) W M m) (hml : m.length ≤ 9223372036854775807) (hnil : M = none → m.length = 0 ∧ mcap = 0) (hr : Will n f m r) :
    Calls Try.prog 12 #[.int .i64 n, .slice A f.length fcap, .slice M m.length mcap] W (RunIs r W) := by
  refine (run_any n W hn hf hfl hcl hm hml hnil).mono fun e w' ⟨hb, h⟩ => ⟨hb, ?_⟩
  match r, hr with
  | none, hr =>
    rcases h with ⟨_, h⟩ | ⟨h, _⟩ | ⟨h, _⟩
    · exact h
    · rw [hr] at h; cases h
    · rw [hr] at h; cases h
  | some r, hr =>
    rcases h with ⟨h, _⟩ | ⟨_, h, he⟩ | ⟨_, t, A, cap, h, he, hs, hc⟩
    · rw [hr.1] at h; cases h
    · obtain rfl := hr.2.det h; exact he
    · obtain rfl := hr.2.det h; exact ⟨A, cap, he, hs, hc⟩
theorem will_b {n : Int} {f : List (List Int)} {m : List Int} {r : Option (List Int)} (h : (fine n f m && ansB m.length f m r) = true) : Will n f m (some r) := by
  rw [Bool.and_eq_true] at h; exact ⟨h.1, ans_b h.2⟩
/-- Run at what a law has laid. -/
theorem run_lit (w : World) (n : Int) (f : List (List Int)) (m : List Int) {r : Option (Option (List Int))} (hr : Will n f m r) (hs : (decide (-9223372036854775808 ≤ n ∧ n ≤ 9223372036854775807) && decide (f.length ≤ 100) && decide (m.length ≤ 100) && f.all fun c => decide (c.length ≤ 100) && c.all fun x => decide (-9223372036854775808 ≤ x ∧ x ≤ 9223372036854775807)) = true) :
    Calls Try.prog 12 #[.int .i64 n, .slice (some ⟨w.heap.size + f.length, 0, none⟩) f.length f.length, .slice (some ⟨w.heap.size + f.length + 1, 0, none⟩) m.length m.length] (((lay w f).alloc (.cells (rv w.heap.size f).toArray 23)).alloc (.cells (ints m).toArray 3)) (RunIs r w) := by
  simp only [Bool.and_eq_true, decide_eq_true_eq, List.all_eq_true] at hs
  obtain ⟨⟨⟨h1, h2⟩, h3⟩, h4⟩ := hs
  obtain ⟨b1, e1, r1⟩ := lay_ok f w (fun c hc => by have := (h4 c hc).1; omega)
  have f1 := rows_form 23 e1 r1 (fun c hc l hl => (h4 c hc).2 l hl)
  have b2 : Below ((lay w f).alloc (.cells (rv w.heap.size f).toArray 23)).heap.size ((lay w f).alloc (.cells (rv w.heap.size f).toArray 23)) (((lay w f).alloc (.cells (rv w.heap.size f).toArray 23)).alloc (.cells (ints m).toArray 3)) := (Below.refl _ _).alloc (Nat.le_refl _) _
  have b3 : Below w.heap.size w (((lay w f).alloc (.cells (rv w.heap.size f).toArray 23)).alloc (.cells (ints m).toArray 3)) := Below.plus (Below.plus b1 _) _
  have hm := vals_g (Value.int .i64) (w := (lay w f).alloc (.cells (rv w.heap.size f).toArray 23)) 3 m (g := w.heap.size + f.length + 1) (by simp [e1])
  refine (run_will (fcap := f.length) (mcap := m.length) h1 (f1.keep b2) (by omega) (fun c hc => by have := (h4 c hc).1; omega) hm (by omega) (fun h => by cases h) hr).mono fun e w' ⟨hb, h⟩ => ⟨Below.on b3 hb, h⟩
theorem run_nil (w : World) (n : Int) (m : List Int) {r : Option (Option (List Int))} (hr : Will n [] m r) (hs : (decide (-9223372036854775808 ≤ n ∧ n ≤ 9223372036854775807) && decide (m.length ≤ 100)) = true) :
    Calls Try.prog 12 #[.int .i64 n, .slice none 0 0, .slice (some ⟨w.heap.size, 0, none⟩) m.length m.length] (w.alloc (.cells (ints m).toArray 3)) (RunIs r w) := by
  simp only [Bool.and_eq_true, decide_eq_true_eq] at hs
  refine (run_will (f := []) (fcap := 0) (mcap := m.length) hs.1 (form_none _) (by simp) (fun c hc => by cases hc) (vals_at (Value.int .i64) w 3 m) (by omega) (fun h => by cases h) hr).mono fun e w' ⟨hb, h⟩ => ⟨Below.on (below_alloc w _) hb, h⟩
set_option maxHeartbeats 1600000 in
theorem awake_any (w : World) : Calls Try.prog 9 #[] w fun e w' => e = .returned (.bool true) ∧ Below w.heap.size w w' := by
  go_enter Try.func9, Try.ntmps9
  go_wp2_with fail
  refine (run_lit w 2 [[1], [-1, 2]] [0, 0] (r := some (some [1, 1])) (will_b (by decide +kernel)) (by decide)).mono ?_
  rintro e w1 ⟨hb, A, cap, rfl, hs, _⟩
  have HB := Lib.hid hb
  have HS := Lib.hid hs
  clear hs hb
  go_wp2_with fail
  refine (sameB (B := some ⟨w1.heap.size, 0, none⟩) (b := [1, 1]) (HS.out.keep (below_alloc w1 _)) (vals_at _ w1 3 [1, 1]) (by decide) (by decide) (r := true) (by decide)).mono ?_
  rintro e w2 ⟨rfl, hb⟩
  have HB2 := Lib.hid (Below.on (Below.plus HB.out _) hb)
  clear hb
  go_wp2_with fail
  go_ret
  exact ⟨rfl, HB2.out⟩
/-! ### Small -/
def sizeM (f : List (List Int)) : Nat := (f.map fun c => 1 + c.length).sum
theorem size_take {f : List (List Int)} {k : Nat} {c : List Int} (h : f[k]? = some c) : sizeM (f.take (k + 1)) = sizeM (f.take k) + 1 + c.length := by
  unfold sizeM; rw [f_take h, List.map_append, List.sum_append]; simp; omega
theorem size_le {f : List (List Int)} {c : List Int} (h : c ∈ f) : c.length + 1 ≤ sizeM f := by
  unfold sizeM
  induction f with
  | nil => cases h
  | cons d f ih =>
    rw [List.map_cons, List.sum_cons]
    rcases List.mem_cons.1 h with rfl | h
    · omega
    · have := ih h; omega
theorem size_len (f : List (List Int)) : f.length ≤ sizeM f := by
  unfold sizeM
  induction f with
  | nil => simp
  | cons d f ih => rw [List.map_cons, List.sum_cons, List.length_cons]; omega
theorem size_bd {f : List (List Int)} {N : Nat} (h : ∀ c ∈ f, c.length ≤ N) : sizeM f ≤ f.length * (N + 1) := by
  unfold sizeM
  induction f with
  | nil => simp
  | cons d f ih =>
    rw [List.map_cons, List.sum_cons, List.length_cons, Nat.succ_mul]
    have := ih (fun c hc => h c (by simp [hc]))
    have := h d (by simp)
    omega
set_option maxHeartbeats 1600000 in
theorem small_is (A : Option Addr) (f : List (List Int)) (fcap : Nat) (most : Int) (w : World) (hf : FormAt w A f) (hl : f.length ≤ 1048576) (hc : ∀ c ∈ f, c.length ≤ 1048576) :
    Calls Try.prog 10 #[.slice A f.length fcap, .int .i64 most] w fun e w' => e = .returned (.bool (decide ((sizeM f : Int) ≤ most))) ∧ w = w' := by
  have HF := Lib.hid hf
  have HC := Lib.hid hc
  have bd : ∀ k, sizeM (f.take k) ≤ 1099512676352 := fun k => by
    have h1 := size_bd (f := f.take k) (N := 1048576) (fun c hc' => hc c (List.mem_of_mem_take hc'))
    have h2 : (f.take k).length ≤ 1048576 := by rw [List.length_take]; omega
    have h3 := Nat.mul_le_mul_right (1048576 + 1) h2
    omega
  have BD := Lib.hid bd
  clear hf hc bd
  go_enter Try.func10, Try.ntmps10
  go_wp2_with fail
  go_loop [5, 6] (fun n i => ∃ k : Nat, k ≤ f.length ∧ i = .int .i64 k ∧ n = .int .i64 (sizeM (f.take k) : Nat)) (fun _ i => f.length - (intOf i).toNat)
  case atStart => exact ⟨0, by omega, rfl, rfl⟩
  case round =>
    obtain ⟨k, hk, rfl, rfl⟩ := hrel
    by_cases hlt : k < f.length
    · obtain ⟨c, hz⟩ : ∃ c, f[k]? = some c := ⟨_, List.getElem?_eq_getElem hlt⟩
      obtain ⟨a, C, ccap, rfl, hcell, hcs, hcl⟩ := HF.out.get k c hz
      have e := size_take hz
      have h1 := BD.out k
      have h2 := HC.out c (List.mem_of_getElem? hz)
      generalize sizeM (f.take k) = s at *
      have HE := Lib.hid e
      clear hcs hz e
      go_wp2_with fail
      go_round
      case rel => exact ⟨k + 1, by omega, by go_num, by rw [HE.out]; first | go_num | (congr 1; push_cast; omega)⟩
      case measure => simp [intOf]; omega
    · obtain rfl : f.length = k := by omega
      rw [List.take_length]
      go_wp2_with fail
      go_ret
      exact ⟨by first | rfl | (refine ret_bool ?_; rfl), rfl⟩
end Go.Proofs.Ytigomnbcalpohaa
