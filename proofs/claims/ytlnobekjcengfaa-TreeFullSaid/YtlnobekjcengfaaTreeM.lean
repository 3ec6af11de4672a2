/-
  A tree as plain data: what is in it, in the order in which it came; what the functions answer, and what is then in it.
-/
import Derived.Test.YtlnobekjcengfaaNameM
import Derived.Lib.Hide
namespace Go.Proofs.Ytlnobekjcengfaa
set_option linter.unusedVariables false

structure Itm where
  p : List UInt8
  d : Bool
  n : Int
deriving DecidableEq
structure St where
  l : List Itm
  nx : Int
abbrev is (p : List UInt8) : Itm → Bool := fun i => i.p == p
def look (l : List Itm) (p : List UInt8) : Option Itm := l.find? (is p)
/-- What is wrong ahead of the stroke. -/
def abv (l : List Itm) (p : List UInt8) : Int := if (spl p).1 = [] then 0 else match look l (spl p).1 with | none => 65282 | some i => if i.d = true then 0 else 65300
def findT (l : List Itm) (p : List UInt8) : Int × Bool × Int :=
  if nameB p = true then (if abv l p = 0 then (match look l p with | none => (-1, false, 65282) | some i => (i.n, i.d, 0)) else (-1, false, abv l p)) else (-1, false, 65282)
def manyL (l : List Itm) (p : List UInt8) : Nat := (l.filter (fun i => (spl i.p).1 == p)).length
def makeT (s : St) (p : List UInt8) (dir : Bool) : (Int × Int) × St :=
  if nameB p = true then (if abv s.l p = 0 then (match look s.l p with
    | some _ => ((-1, 65297), s)
    | none => if dir = true ∧ (spl p).1 ≠ [] then ((-1, 65302), s) else if 8 ≤ s.l.length then ((-1, 65308), s) else ((s.nx, 0), ⟨s.l ++ [⟨p, dir, s.nx⟩], s.nx + 1⟩))
    else ((-1, abv s.l p), s)) else ((-1, 65282), s)
def dropT (s : St) (p : List UInt8) (dir : Bool) : Int × St :=
  if (findT s.l p).2.2 = 0 then
    (if dir = false ∧ (findT s.l p).2.1 = true then (65301, s)
     else if dir = true ∧ (findT s.l p).2.1 = false then (65300, s)
     else if dir = true ∧ 0 < manyL s.l p then (65319, s)
     else (0, ⟨s.l.eraseP (is p), s.nx⟩))
  else ((findT s.l p).2.2, s)
/-- The first that is at a is at b from now on. -/
def ren (a b : List UInt8) : List Itm → List Itm
  | [] => []
  | i :: l => if i.p = a then ⟨b, i.d, i.n⟩ :: l else i :: ren a b l
def moveT (s : St) (a b : List UInt8) : (Int × Int) × St :=
  if (findT s.l a).2.2 = 0 then
    (if (findT s.l a).2.1 = true then ((-1, 65301), s)
     else if nameB b = true then
       (if abv s.l b = 0 then
         (if a = b then ((-1, 0), s)
          else match look s.l b with
            | none => ((-1, 0), ⟨ren a b s.l, s.nx⟩)
            | some i => if i.d = true then ((-1, 65301), s) else ((i.n, 0), ⟨ren a b (s.l.eraseP (is b)), s.nx⟩))
        else ((-1, abv s.l b), s))
     else ((-1, 65282), s))
  else ((-1, (findT s.l a).2.2), s)
def manyT (l : List Itm) (p : List UInt8) : Int :=
  if (findT l p).2.2 = 0 then (if (findT l p).2.1 = true then (manyL l p : Int) else 65300) else (findT l p).2.2
/-- New: entries one behind the other. -/
def putT (l : List Itm) (p : List UInt8) (d : Bool) (k : Nat) : Option (List Itm) :=
  if nameB p = true then (match look l p with
    | some _ => none
    | none => if (spl p).1 = [] then some (l ++ [⟨p, d, k⟩]) else if d = true then none else match look l (spl p).1 with
      | none => none
      | some i => if i.d = true then some (l ++ [⟨p, d, k⟩]) else none)
  else none
def fromT : List (List UInt8 × Bool) → Nat → List Itm → Option (List Itm)
  | [], _, l => some l
  | e :: es, k, l => match putT l e.1 e.2 k with
    | none => none
    | some l' => fromT es (k + 1) l'
def newT (es : List (List UInt8 × Bool)) : Option St := if 8 < es.length then none else (fromT es 0 []).map (fun l => ⟨l, es.length⟩)

/-- At which place. -/
def ixT (l : List Itm) (p : List UInt8) : Int := match l.findIdx? (is p) with | none => -1 | some k => k
theorem look_ix (l : List Itm) (p : List UInt8) : look l p = match l.findIdx? (is p) with | none => none | some k => l[k]? := by
  unfold look
  induction l with
  | nil => rfl
  | cons i l ih =>
    by_cases h : is p i = true
    · rw [List.find?_cons_of_pos h, List.findIdx?_cons, if_pos h]; rfl
    · rw [List.find?_cons_of_neg h, List.findIdx?_cons, if_neg h, ih]
      cases l.findIdx? (is p) with
      | none => rfl
      | some k => rfl
theorem ix_none {l : List Itm} {p : List UInt8} (h : look l p = none) : ixT l p = -1 := by
  unfold ixT
  rw [look_ix] at h
  cases hk : l.findIdx? (is p) with
  | none => rfl
  | some k =>
    rw [hk] at h
    have := (List.findIdx?_eq_some_iff_findIdx_eq.1 hk).1
    have h' : l[k]? = none := h
    rw [List.getElem?_eq_getElem this] at h'
    cases h'
theorem ix_some {l : List Itm} {p : List UInt8} {i : Itm} (h : look l p = some i) : ∃ k : Nat, ixT l p = k ∧ l[k]? = some i ∧ l.eraseP (is p) = l.take k ++ l.drop (k + 1) ∧ (∀ b, ren p b l = l.take k ++ ⟨b, i.d, i.n⟩ :: l.drop (k + 1)) := by
  induction l with
  | nil => cases h
  | cons j l ih =>
    by_cases hj : is p j = true
    · have e : j = i := by unfold look at h; rw [List.find?_cons_of_pos hj] at h; cases h; rfl
      subst e
      refine ⟨0, ?_, rfl, ?_, fun b => ?_⟩
      · unfold ixT; rw [List.findIdx?_cons, if_pos hj]
      · rw [List.eraseP_cons_of_pos hj]; rfl
      · rw [ren, if_pos (eq_of_beq hj)]; rfl
    · have h' : look l p = some i := by unfold look at h ⊢; rw [List.find?_cons_of_neg hj] at h; exact h
      obtain ⟨k, h1, h2, h3, h4⟩ := ih h'
      refine ⟨k + 1, ?_, h2, ?_, fun b => ?_⟩
      · unfold ixT at h1 ⊢
        rw [List.findIdx?_cons, if_neg hj]
        cases hk : l.findIdx? (is p) with
        | none => rw [hk] at h1; simp at h1
        | some q => rw [hk] at h1; simp at h1 ⊢; omega
      · rw [List.eraseP_cons_of_neg hj, h3]; rfl
      · have hn : ¬ j.p = p := fun e => hj (by unfold is; rw [e]; simp)
        rw [show ren p b (j :: l) = j :: ren p b l by rw [ren, if_neg hn], h4]; rfl
theorem look_path {l : List Itm} {p : List UInt8} {i : Itm} (h : look l p = some i) : i.p = p := eq_of_beq (List.find?_some (p := is p) h)
end Go.Proofs.Ytlnobekjcengfaa
