/-
  Stage 11's plain data: names, faults, heights: what a check of a program answers, and that it answers one thing.
-/
import Derived.Test.YthjbjbbbbdhcmaaProgM
namespace Go.Proofs.Ythjbjbbbbdhcmaa
set_option linter.unusedVariables false

/-! ### Names -/
def chOk (c : UInt8) : Bool := (decide (97 ≤ c.toNat) && decide (c.toNat ≤ 122)) || (decide (48 ≤ c.toNat) && decide (c.toNat ≤ 57)) || decide (c.toNat = 46) || decide (c.toNat = 95)
def addC (ps : List (List UInt8)) (c : UInt8) : List (List UInt8) := if c.toNat = 47 then ps ++ [[]] else ps.dropLast ++ [ps.getLastD [] ++ [c]]
/-- A text's parts, between its strokes. -/
def parts (l : List UInt8) : List (List UInt8) := l.foldl addC [[]]
theorem parts_snoc (l : List UInt8) (c : UInt8) : parts (l ++ [c]) = addC (parts l) c := by unfold parts; rw [List.foldl_append]; rfl
theorem addC_pos (ps : List (List UInt8)) (c : UInt8) : 0 < (addC ps c).length := by unfold addC; split <;> simp
theorem parts_pos (l : List UInt8) : 0 < (parts l).length := by
  unfold parts
  have : ∀ (l : List UInt8) (ps : List (List UInt8)), 0 < ps.length → 0 < (l.foldl addC ps).length := by
    intro l
    induction l with
    | nil => intro ps h; exact h
    | cons c l ih => intro ps _; exact ih _ (addC_pos ps c)
  exact this l _ (by simp)
def partOk (p : List UInt8) : Bool := p != [] && p != [46] && p != [46, 46]
/-- May a text be a name? -/
def nameB (l : List UInt8) : Bool := decide (1 ≤ l.length) && decide (l.length ≤ 8) && l.all (fun c => decide (c.toNat = 47) || chOk c) && (parts l).all partOk && decide ((parts l).length ≤ 2)
/-! ### What is told of an instruction by itself -/
def isName (op : Int) : Bool := op == 27 || op == 33 || op == 35 || op == 36 || op == 37
def namesOf (x : Int × Int) : List Int := if isName x.1 = true then [x.2] else if x.1 = 34 then [x.2 / 8, x.2 % 8] else []
/-- The number of the first fault of an instruction, by itself: 0 is none. -/
def fault (n m i : Nat) (x : Int × Int) : Int :=
  if okI x = false then 5 else if (namesOf x).any (fun a => decide ((m : Int) ≤ a)) = true then 10 else if (x.1 = 22 ∨ x.1 = 23) ∧ (n : Int) ≤ x.2 then 6 else if (x.1 ≠ 22 ∧ x.1 ≠ 26) ∧ i + 1 = n then 8 else 0
/-! ### Heights -/
def tkx (x : Int × Int) : Int := tk x.1.toNat
def gvx (x : Int × Int) : Int := gv x.1.toNat
def stepOk (x : Int × Int) (h : Nat) : Prop := tkx x ≤ h ∧ (h : Int) - tkx x + gvx x ≤ 16
instance (x : Int × Int) (h : Nat) : Decidable (stepOk x h) := by unfold stepOk; exact inferInstance
def toH (x : Int × Int) (h : Nat) : Nat := ((h : Int) - tkx x + gvx x).toNat
/-- With which heights an instruction is reached. -/
inductive Reach (L : List (Int × Int)) : Nat → Nat → Prop where
  | zero : Reach L 0 0
  | jump {i h : Nat} {x : Int × Int} : Reach L i h → L[i]? = some x → stepOk x h → (x.1 = 22 ∨ x.1 = 23) → Reach L x.2.toNat (toH x h)
  | next {i h : Nat} {x : Int × Int} : Reach L i h → L[i]? = some x → stepOk x h → x.1 ≠ 22 → x.1 ≠ 26 → Reach L (i + 1) (toH x h)
theorem toH_le {x : Int × Int} {h : Nat} (hs : stepOk x h) : toH x h ≤ 16 := by
  obtain ⟨h1, h2⟩ := hs
  unfold toH
  omega
theorem Reach.le {L : List (Int × Int)} {i h : Nat} (r : Reach L i h) : h ≤ 16 := by
  cases r with
  | zero => omega
  | jump _ _ hs _ => exact toH_le hs
  | next _ _ hs _ _ => exact toH_le hs
/-- An instruction whose stack is not well. -/
def Bad (L : List (Int × Int)) (i : Nat) : Prop := ∃ x h, L[i]? = some x ∧ Reach L i h ∧ (¬ stepOk x h ∨ ∃ h', h' ≠ h ∧ Reach L i h')
structure Sized (L : List (Int × Int)) (N : List ByteArray) : Prop where
  l1 : 1 ≤ L.length
  l2 : L.length ≤ 96
  n : N.length ≤ 8
def Named (N : List ByteArray) : Prop := ∀ s ∈ N, nameB s.data.toList = true
def Single (L : List (Int × Int)) (N : List ByteArray) : Prop := ∀ i x, L[i]? = some x → fault L.length N.length i x = 0
/-- The heights of a program that may run. -/
def Hts (L : List (Int × Int)) (hs : List Int) : Prop := hs.length = L.length ∧ ∀ i, i < L.length → (∃ h : Nat, Reach L i h ∧ hs[i]? = some (h : Int)) ∨ ((∀ h, ¬ Reach L i h) ∧ hs[i]? = some (-1))
/-- What a check answers. -/
inductive Is (L : List (Int × Int)) (N : List ByteArray) : Int → Int → List Int → Prop where
  | full : ¬ Sized L N → Is L N 0 3 []
  | name : Sized L N → ¬ Named N → Is L N 0 10 []
  | single {i : Nat} {x : Int × Int} : Sized L N → Named N → L[i]? = some x → fault L.length N.length i x ≠ 0 → (∀ j y, j < i → L[j]? = some y → fault L.length N.length j y = 0) → Is L N i (fault L.length N.length i x) []
  | stack {i : Nat} : Sized L N → Named N → Single L N → Bad L i → (∀ j, j < i → ¬ Bad L j) → Is L N i 7 []
  | well {hs : List Int} : Sized L N → Named N → Single L N → (∀ i, ¬ Bad L i) → Hts L hs → Is L N 0 0 hs
theorem Hts.det {L : List (Int × Int)} {hs hs' : List Int} (hb : ∀ i, ¬ Bad L i) (h : Hts L hs) (h' : Hts L hs') : hs = hs' := by
  apply List.ext_getElem?
  intro i
  by_cases hi : i < L.length
  · rcases h.2 i hi with ⟨a, ra, ea⟩ | ⟨na, ea⟩ <;> rcases h'.2 i hi with ⟨b, rb, eb⟩ | ⟨nb, eb⟩
    · rw [ea, eb]
      by_cases e : a = b
      · rw [e]
      · exact absurd ⟨L[i], a, List.getElem?_eq_getElem hi, ra, .inr ⟨b, fun k => e k.symm, rb⟩⟩ (hb i)
    · exact absurd ra (nb a)
    · exact absurd rb (na b)
    · rw [ea, eb]
  · rw [List.getElem?_eq_none (by rw [h.1]; omega), List.getElem?_eq_none (by rw [h'.1]; omega)]
/-- It answers one thing. -/
theorem Is.det {L : List (Int × Int)} {N : List ByteArray} {k k' f f' : Int} {hs hs' : List Int} (h : Is L N k f hs) (h' : Is L N k' f' hs') : k = k' ∧ f = f' ∧ hs = hs' := by
  cases h with
  | full h1 => cases h' with
    | full => exact ⟨rfl, rfl, rfl⟩
    | name q => exact absurd q h1
    | single q => exact absurd q h1
    | stack q => exact absurd q h1
    | well q => exact absurd q h1
  | name h1 h2 => cases h' with
    | full q => exact absurd h1 q
    | name => exact ⟨rfl, rfl, rfl⟩
    | single _ q => exact absurd q h2
    | stack _ q => exact absurd q h2
    | well _ q => exact absurd q h2
  | @single i x h1 h2 h3 h4 h5 => cases h' with
    | full q => exact absurd h1 q
    | name _ q => exact absurd h2 q
    | @single j y _ _ q3 q4 q5 =>
      have e : i = j := by
        rcases Nat.lt_trichotomy i j with e | e | e
        · exact absurd (q5 i x e h3) h4
        · exact e
        · exact absurd (h5 j y e q3) q4
      subst e
      rw [h3] at q3
      injection q3 with q3
      subst q3
      exact ⟨rfl, rfl, rfl⟩
    | stack _ _ q => exact absurd (q i x h3) h4
    | well _ _ q => exact absurd (q i x h3) h4
  | @stack i h1 h2 h3 h4 h5 => cases h' with
    | full q => exact absurd h1 q
    | name _ q => exact absurd h2 q
    | single _ _ q3 q4 => exact absurd (h3 _ _ q3) q4
    | @stack j _ _ _ q4 q5 =>
      have e : i = j := by
        rcases Nat.lt_trichotomy i j with e | e | e
        · exact absurd h4 (q5 i e)
        · exact e
        · exact absurd q4 (h5 j e)
      subst e
      exact ⟨rfl, rfl, rfl⟩
    | well _ _ _ q => exact absurd h4 (q i)
  | well h1 h2 h3 h4 h5 => cases h' with
    | full q => exact absurd h1 q
    | name _ q => exact absurd h2 q
    | single _ _ q3 q4 => exact absurd (h3 _ _ q3) q4
    | stack _ _ _ q => exact absurd q (h4 _)
    | well _ _ _ _ q => exact ⟨rfl, rfl, Hts.det h4 h5 q⟩
end Go.Proofs.Ythjbjbbbbdhcmaa
