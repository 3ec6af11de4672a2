/-
  How bytes are read as a program: plain data.
-/
import Derived.Test.YtcecmkelefhaaaaDoorProgM
namespace Go.Proofs.YtcecmkelefhaaaaDoor
set_option linter.unusedVariables false

/-- What a reader has left, and whether it came short. -/
structure Rd where
  l : List UInt8
  sh : Bool
def Rd.nx (s : Rd) (n : Nat) : List UInt8 := if s.l.length < n then [] else s.l.take n
def Rd.go (s : Rd) (n : Nat) : Rd := if s.l.length < n then ⟨[], true⟩ else ⟨s.l.drop n, s.sh⟩
def num (l : List UInt8) : Nat := l.foldl (fun v x => v * 256 + x.toNat) 0
def stN (s : Rd) : ByteArray × Rd := (⟨(((s.go 1).nx (num (s.nx 1)))).toArray⟩, (s.go 1).go (num (s.nx 1)))
def stI (s : Rd) : (Int × Int) × Rd := (((num (s.nx 1) : Nat), (num ((s.go 1).nx 2) : Nat)), (s.go 1).go 2)
def rdN : Nat → Rd → List ByteArray × Rd
  | 0, s => ([], s)
  | k + 1, s => ((rdN k s).1 ++ [(stN (rdN k s).2).1], (stN (rdN k s).2).2)
def rdI : Nat → Rd → List (Int × Int) × Rd
  | 0, s => ([], s)
  | k + 1, s => ((rdI k s).1 ++ [(stI (rdI k s).2).1], (stI (rdI k s).2).2)
theorem take1_le (l : List UInt8) : num (l.take 1) ≤ 255 := by
  cases l with
  | nil => simp [num]
  | cons a l => have := UInt8.toNat_lt a; simp [num]; omega
theorem num1_le (s : Rd) : num (s.nx 1) ≤ 255 := by
  unfold Rd.nx
  split
  · simp [num]
  · exact take1_le _
theorem num2_le (s : Rd) : num (s.nx 2) ≤ 65535 := by
  unfold Rd.nx
  split
  · simp [num]
  · match s.l with
    | [] => simp [num]
    | [a] => have := UInt8.toNat_lt a; simp [num]; omega
    | a :: b :: _ => have := UInt8.toNat_lt a; have := UInt8.toNat_lt b; simp [num]; omega
theorem nx_len (s : Rd) (n : Nat) : (s.nx n).length ≤ n := by
  unfold Rd.nx
  split
  · simp
  · rw [List.length_take]; omega
theorem stN_size (s : Rd) : (stN s).1.size ≤ 255 := by
  have h1 := nx_len (s.go 1) (num (s.nx 1))
  have h2 := num1_le s
  show (((s.go 1).nx (num (s.nx 1)))).toArray.size ≤ 255
  rw [List.size_toArray]
  omega
theorem rdN_len (k : Nat) (s : Rd) : (rdN k s).1.length = k := by
  induction k with
  | zero => rfl
  | succ k ih => simp [rdN, ih]
theorem rdI_len (k : Nat) (s : Rd) : (rdI k s).1.length = k := by
  induction k with
  | zero => rfl
  | succ k ih => simp [rdI, ih]
theorem rdN_size (k : Nat) (s : Rd) : ∀ t ∈ (rdN k s).1, t.size ≤ 255 := by
  induction k with
  | zero => intro t h; cases h
  | succ k ih =>
    intro t h
    rcases List.mem_append.1 h with h | h
    · exact ih t h
    · simp only [List.mem_singleton] at h
      rw [h]
      exact stN_size _
theorem rdI_bd (k : Nat) (s : Rd) : ∀ x ∈ (rdI k s).1, (0 ≤ x.1 ∧ x.1 ≤ 255) ∧ 0 ≤ x.2 ∧ x.2 ≤ 65535 := by
  induction k with
  | zero => intro t h; cases h
  | succ k ih =>
    intro t h
    rcases List.mem_append.1 h with h | h
    · exact ih t h
    · simp only [List.mem_singleton] at h
      rw [h]
      have h1 := num1_le (rdI k s).2
      have h2 := num2_le ((rdI k s).2.go 1)
      simp only [stI]
      omega
/-- What parse tells: instructions, names, whether the bytes had the form. -/
structure Par where
  L : List (Int × Int)
  N : List ByteArray
  ok : Bool
def par (l : List UInt8) : Par :=
  let s0 : Rd := ⟨l, false⟩
  if num (s0.nx 2) = 22610 then
    let s1 := s0.go 2
    let p := rdN (num (s1.nx 1)) (s1.go 1)
    let q := rdI (num (p.2.nx 1)) (p.2.go 1)
    ⟨q.1, p.1, !q.2.sh && q.2.l.isEmpty⟩
  else ⟨[], [], false⟩
/-- What may be written as bytes at all. -/
structure Raw (L : List (Int × Int)) (N : List ByteArray) : Prop where
  l : L.length ≤ 255
  n : N.length ≤ 255
  s : ∀ t ∈ N, t.size ≤ 255
  i : ∀ x ∈ L, (0 ≤ x.1 ∧ x.1 ≤ 255) ∧ 0 ≤ x.2 ∧ x.2 ≤ 65535
theorem par_raw (l : List UInt8) : Raw (par l).L (par l).N := by
  unfold par
  simp only
  split
  · exact ⟨by rw [rdI_len]; exact num1_le _, by rw [rdN_len]; exact num1_le _, rdN_size _ _, rdI_bd _ _⟩
  · exact ⟨by simp, by simp, (fun t h => by cases h), (fun t h => by cases h)⟩
theorem nx_app (a r : List UInt8) (sh : Bool) {n : Nat} (hn : a.length = n) : (⟨a ++ r, sh⟩ : Rd).nx n = a ∧ (⟨a ++ r, sh⟩ : Rd).go n = ⟨r, sh⟩ := by
  subst hn
  unfold Rd.nx Rd.go
  have h : ¬ (a ++ r).length < a.length := by rw [List.length_append]; omega
  simp only [if_neg h, List.take_left, List.drop_left, and_self]
theorem num1 (c : UInt8) : num [c] = c.toNat := by simp [num]
theorem ofNat_to {n : Nat} (h : n ≤ 255) : (UInt8.ofNat n).toNat = n := by rw [UInt8.toNat_ofNat']; omega
theorem stN_enc {t : ByteArray} (ht : t.size ≤ 255) (r : List UInt8) (sh : Bool) : stN ⟨encS t ++ r, sh⟩ = (t, ⟨r, sh⟩) := by
  have e : encS t ++ r = [UInt8.ofNat t.size] ++ (t.data.toList ++ r) := rfl
  rw [e]
  unfold stN
  obtain ⟨h1, h2⟩ := nx_app [UInt8.ofNat t.size] (t.data.toList ++ r) sh (n := 1) rfl
  rw [h1, h2, num1, ofNat_to ht]
  obtain ⟨h3, h4⟩ := nx_app t.data.toList r sh (n := t.size) (by rw [Array.length_toList]; rfl)
  rw [h3, h4]
theorem stI_enc {x : Int × Int} (hx : (0 ≤ x.1 ∧ x.1 ≤ 255) ∧ 0 ≤ x.2 ∧ x.2 ≤ 65535) (r : List UInt8) (sh : Bool) : stI ⟨encI x ++ r, sh⟩ = (x, ⟨r, sh⟩) := by
  obtain ⟨op, a⟩ := x
  obtain ⟨⟨h1, h2⟩, h3, h4⟩ := hx
  simp only at h1 h2 h3 h4
  have e : encI (op, a) ++ r = [UInt8.ofNat op.toNat] ++ ([UInt8.ofNat (a.toNat / 256), UInt8.ofNat a.toNat] ++ r) := rfl
  rw [e]
  unfold stI
  obtain ⟨k1, k2⟩ := nx_app [UInt8.ofNat op.toNat] ([UInt8.ofNat (a.toNat / 256), UInt8.ofNat a.toNat] ++ r) sh (n := 1) rfl
  rw [k1, k2, num1, ofNat_to (by omega)]
  obtain ⟨k3, k4⟩ := nx_app [UInt8.ofNat (a.toNat / 256), UInt8.ofNat a.toNat] r sh (n := 2) rfl
  rw [k3, k4]
  have e2 : num [UInt8.ofNat (a.toNat / 256), UInt8.ofNat a.toNat] = a.toNat := by
    have h5 : (UInt8.ofNat (a.toNat / 256)).toNat = a.toNat / 256 := ofNat_to (by omega)
    have h6 : (UInt8.ofNat a.toNat).toNat = a.toNat % 256 := by rw [UInt8.toNat_ofNat']
    simp only [num, List.foldl_cons, List.foldl_nil, h5, h6]
    omega
  rw [e2]
  have e3 : ((op.toNat : Nat) : Int) = op := by omega
  have e4 : ((a.toNat : Nat) : Int) = a := by omega
  rw [e3, e4]
theorem rdN_enc {N : List ByteArray} (hN : ∀ t ∈ N, t.size ≤ 255) (r : List UInt8) (sh : Bool) : ∀ k, k ≤ N.length → rdN k ⟨N.flatMap encS ++ r, sh⟩ = (N.take k, ⟨(N.drop k).flatMap encS ++ r, sh⟩)
  | 0, _ => by simp [rdN]
  | k + 1, hk => by
    have hlt : k < N.length := by omega
    have e : N.drop k = N[k] :: N.drop (k + 1) := List.drop_eq_getElem_cons hlt
    simp only [rdN, rdN_enc hN r sh k (by omega)]
    rw [e, List.flatMap_cons, List.append_assoc, stN_enc (hN _ (List.getElem_mem hlt)), List.take_succ_eq_append_getElem hlt]
theorem rdI_enc {L : List (Int × Int)} (hL : ∀ x ∈ L, (0 ≤ x.1 ∧ x.1 ≤ 255) ∧ 0 ≤ x.2 ∧ x.2 ≤ 65535) (r : List UInt8) (sh : Bool) : ∀ k, k ≤ L.length → rdI k ⟨L.flatMap encI ++ r, sh⟩ = (L.take k, ⟨(L.drop k).flatMap encI ++ r, sh⟩)
  | 0, _ => by simp [rdI]
  | k + 1, hk => by
    have hlt : k < L.length := by omega
    have e : L.drop k = L[k] :: L.drop (k + 1) := List.drop_eq_getElem_cons hlt
    simp only [rdI, rdI_enc hL r sh k (by omega)]
    rw [e, List.flatMap_cons, List.append_assoc, stI_enc (hL _ (List.getElem_mem hlt)), List.take_succ_eq_append_getElem hlt]
/-- WHAT IS WRITTEN IS READ, AND WHAT STANDS BEHIND IT IS TOLD. -/
theorem par_enc {L : List (Int × Int)} {N : List ByteArray} (h : Raw L N) (r : List UInt8) : par (encP L N ++ r) = ⟨L, N, r.isEmpty⟩ := by
  have e : encP L N ++ r = [88, 82] ++ ([UInt8.ofNat N.length] ++ (N.flatMap encS ++ ([UInt8.ofNat L.length] ++ (L.flatMap encI ++ r)))) := by
    unfold encP; simp
  rw [e]
  unfold par
  simp only
  obtain ⟨a1, a2⟩ := nx_app [88, 82] ([UInt8.ofNat N.length] ++ (N.flatMap encS ++ ([UInt8.ofNat L.length] ++ (L.flatMap encI ++ r)))) false (n := 2) rfl
  rw [a1, a2, if_pos (by decide)]
  obtain ⟨b1, b2⟩ := nx_app [UInt8.ofNat N.length] (N.flatMap encS ++ ([UInt8.ofNat L.length] ++ (L.flatMap encI ++ r))) false (n := 1) rfl
  rw [b1, b2, num1, ofNat_to h.n, rdN_enc h.s _ _ _ (Nat.le_refl _)]
  simp only [List.take_length, List.drop_length, List.flatMap_nil, List.nil_append]
  obtain ⟨c1, c2⟩ := nx_app [UInt8.ofNat L.length] (L.flatMap encI ++ r) false (n := 1) rfl
  rw [c1, c2, num1, ofNat_to h.l, rdI_enc h.i _ _ _ (Nat.le_refl _)]
  simp
/-- Where a reader has not come short, what was left is what it gave and what is left. -/
theorem go_back {s : Rd} {n : Nat} (h : (s.go n).sh = false) : s.sh = false ∧ s.l = s.nx n ++ (s.go n).l ∧ (s.nx n).length = n := by
  unfold Rd.go Rd.nx at *
  split at h
  · cases h
  · rename_i h1
    simp only [if_neg h1]
    exact ⟨h, (List.take_append_drop n s.l).symm, by rw [List.length_take]; omega⟩
theorem one_of {l : List UInt8} (h : l.length = 1) : l = [UInt8.ofNat (num l)] := by
  match l, h with
  | [c], _ => rw [num1, UInt8.ofNat_toNat]
theorem stN_back {s : Rd} (h : (stN s).2.sh = false) : s.sh = false ∧ s.l = encS (stN s).1 ++ (stN s).2.l := by
  unfold stN at *
  simp only at h ⊢
  obtain ⟨h1, h2, h3⟩ := go_back h
  obtain ⟨h4, h5, h6⟩ := go_back h1
  refine ⟨h4, ?_⟩
  have e : encS ⟨((s.go 1).nx (num (s.nx 1))).toArray⟩ = s.nx 1 ++ (s.go 1).nx (num (s.nx 1)) := by
    unfold encS
    have : (⟨((s.go 1).nx (num (s.nx 1))).toArray⟩ : ByteArray).size = num (s.nx 1) := by
      show (((s.go 1).nx (num (s.nx 1))).toArray).size = _
      rw [List.size_toArray]; exact h3
    rw [this]
    show UInt8.ofNat (num (s.nx 1)) :: ((s.go 1).nx (num (s.nx 1))).toArray.toList = _
    have e9 := one_of h6
    generalize s.nx 1 = z at e9 ⊢
    rw [show z ++ (s.go 1).nx (num z) = [UInt8.ofNat (num z)] ++ (s.go 1).nx (num z) from by rw [← e9]]
    rfl
  rw [e, List.append_assoc, ← h2, ← h5]
theorem two_of {l : List UInt8} (h : l.length = 2) : l = [UInt8.ofNat (num l / 256), UInt8.ofNat (num l)] := by
  match l, h with
  | [a, b], _ =>
    have h1 := UInt8.toNat_lt a
    have h2 := UInt8.toNat_lt b
    have e : num [a, b] = a.toNat * 256 + b.toNat := by simp [num]
    have e1 : (a.toNat * 256 + b.toNat) / 256 = a.toNat := by omega
    have e2 : UInt8.ofNat (a.toNat * 256 + b.toNat) = b := by
      apply UInt8.toNat.inj
      rw [UInt8.toNat_ofNat']
      omega
    rw [e, e1, e2, UInt8.ofNat_toNat]
theorem stI_back {s : Rd} (h : (stI s).2.sh = false) : s.sh = false ∧ s.l = encI (stI s).1 ++ (stI s).2.l := by
  unfold stI at *
  simp only at h ⊢
  obtain ⟨h1, h2, h3⟩ := go_back h
  obtain ⟨h4, h5, h6⟩ := go_back h1
  refine ⟨h4, ?_⟩
  have e : encI (((num (s.nx 1) : Nat) : Int), ((num ((s.go 1).nx 2) : Nat) : Int)) = s.nx 1 ++ (s.go 1).nx 2 := by
    unfold encI
    simp only [Int.toNat_natCast]
    have e9 := one_of h6
    have e8 := two_of h3
    generalize s.nx 1 = z at e9 ⊢
    generalize (s.go 1).nx 2 = y at e8 ⊢
    rw [show z ++ y = [UInt8.ofNat (num z)] ++ [UInt8.ofNat (num y / 256), UInt8.ofNat (num y)] from by rw [← e9, ← e8]]
    rfl
  rw [e, List.append_assoc, ← h2, ← h5]
theorem rdN_back : ∀ (k : Nat) {s : Rd}, (rdN k s).2.sh = false → s.sh = false ∧ s.l = (rdN k s).1.flatMap encS ++ (rdN k s).2.l
  | 0, s, h => ⟨h, rfl⟩
  | k + 1, s, h => by
    obtain ⟨h1, h2⟩ := stN_back (s := (rdN k s).2) h
    obtain ⟨h3, h4⟩ := rdN_back k h1
    refine ⟨h3, ?_⟩
    simp only [rdN, List.flatMap_append, List.flatMap_cons, List.flatMap_nil, List.append_nil, List.append_assoc]
    rw [← h2, ← h4]
theorem rdI_back : ∀ (k : Nat) {s : Rd}, (rdI k s).2.sh = false → s.sh = false ∧ s.l = (rdI k s).1.flatMap encI ++ (rdI k s).2.l
  | 0, s, h => ⟨h, rfl⟩
  | k + 1, s, h => by
    obtain ⟨h1, h2⟩ := stI_back (s := (rdI k s).2) h
    obtain ⟨h3, h4⟩ := rdI_back k h1
    refine ⟨h3, ?_⟩
    simp only [rdI, List.flatMap_append, List.flatMap_cons, List.flatMap_nil, List.append_nil, List.append_assoc]
    rw [← h2, ← h4]
/-- WHAT IS READ IS WHAT WAS WRITTEN. -/
theorem par_back {l : List UInt8} (h : (par l).ok = true) : encP (par l).L (par l).N = l := by
  unfold par at *
  simp only at h ⊢
  split at h
  · rename_i h0
    simp only [h0, if_true]
    simp only [Bool.and_eq_true, Bool.not_eq_true', List.isEmpty_iff] at h
    obtain ⟨h1, h2⟩ := h
    obtain ⟨h3, h4⟩ := rdI_back _ h1
    obtain ⟨h5, h6, h7⟩ := go_back h3
    obtain ⟨h8, h9⟩ := rdN_back _ h5
    obtain ⟨h10, h11, h12⟩ := go_back h8
    obtain ⟨_, h14, h15⟩ := go_back h10
    rw [h2, List.append_nil] at h4
    unfold encP
    rw [rdN_len, rdI_len, ← one_of h7, ← one_of h12]
    simp only [List.append_assoc, List.cons_append]
    rw [← h4, ← h6, ← h9, ← h11]
    have e := two_of h15
    rw [h0] at e
    have e2 : (⟨l, false⟩ : Rd).nx 2 = [88, 82] := e
    show [88, 82] ++ _ = l
    rw [← e2]
    exact h14.symm
  · cases h
/-- Two programs that may be written, whose bytes begin alike, are one. -/
theorem raw_apart {L L' : List (Int × Int)} {N N' : List ByteArray} {r r' : List UInt8} (h : Raw L N) (h' : Raw L' N') (he : encP L N ++ r = encP L' N' ++ r') : L = L' ∧ N = N' ∧ r = r' := by
  have h1 := par_enc h r
  rw [he, par_enc h' r'] at h1
  injection h1 with h2 h3 _
  subst h2 h3
  exact ⟨rfl, rfl, List.append_cancel_left he⟩
/-- Bytes that are cut are none. -/
theorem par_cut {L : List (Int × Int)} {N : List ByteArray} (h : Raw L N) {k : Nat} (hk : k < (encP L N).length) : (par ((encP L N).take k)).ok = false := by
  cases hc : (par ((encP L N).take k)).ok with
  | false => rfl
  | true =>
    exfalso
    have h1 := par_back hc
    have h2 : encP (par ((encP L N).take k)).L (par ((encP L N).take k)).N ++ (encP L N).drop k = encP L N ++ [] := by rw [h1, List.take_append_drop, List.append_nil]
    obtain ⟨_, _, h3⟩ := raw_apart (par_raw _) h h2
    have := congrArg List.length h3
    rw [List.length_drop] at this
    simp at this
    omega
end Go.Proofs.YtcecmkelefhaaaaDoor
