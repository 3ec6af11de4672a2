/-
  How many terms can come of it when numbers are put in one behind another, and what they are worth: plain mathematics.
-/
import Derived.Test.YtgbmiphaabeodaaDoorFixT
namespace Go.Proofs.YtgbmiphaabeodaaDoor
open Go.RowKit
set_option linter.unusedVariables false

/-- The first is the second or stands in it. -/
inductive Tr.In : Tr → Tr → Prop where
  | refl (t : Tr) : Tr.In t t
  | a {s a b c : Tr} {op w v : Int} : Tr.In s a → Tr.In s (.n op w v a b c)
  | b {s a b c : Tr} {op w v : Int} : Tr.In s b → Tr.In s (.n op w v a b c)
  | c {s a b c : Tr} {op w v : Int} : Tr.In s c → Tr.In s (.n op w v a b c)
theorem Tr.In.trans {s t u : Tr} (h : Tr.In s t) (k : Tr.In t u) : Tr.In s u := by
  induction k with
  | refl => exact h
  | a _ ih => exact .a ih
  | b _ ih => exact .b ih
  | c _ ih => exact .c ih
theorem Tr.In.o {s : Tr} (h : Tr.In s .o) : s = .o := by cases h; rfl
theorem Tr.In.cases {s a b c : Tr} {op w v : Int} (h : Tr.In s (.n op w v a b c)) : s = .n op w v a b c ∨ Tr.In s a ∨ Tr.In s b ∨ Tr.In s c := by
  cases h with
  | refl => exact .inl rfl
  | a h => exact .inr (.inl h)
  | b h => exact .inr (.inr (.inl h))
  | c h => exact .inr (.inr (.inr h))
theorem Tr.In.leaf {s : Tr} {op w v : Int} (h : Tr.In s (.n op w v .o .o .o)) (h0 : s ≠ .o) : s = .n op w v .o .o .o := by
  rcases h.cases with h | h | h | h
  · exact h
  all_goals exact absurd h.o h0
theorem Tr.In.mk {s a b c : Tr} {op w : Int} (h : Tr.In s (Tr.mk op w a b c)) (h0 : s ≠ .o) : s = Tr.mk op w a b c ∨ Tr.In s a ∨ Tr.In s b ∨ Tr.In s c := by
  unfold Tr.mk at h ⊢
  split at h
  · rename_i hk; rw [if_pos hk]; exact .inl (Tr.In.leaf h h0)
  · rename_i hk; rw [if_neg hk]; exact h.cases
theorem Tr.in_sub (g : Nat → Option Int) {s : Tr} (h0 : s ≠ .o) : ∀ t : Tr, Tr.In s (t.sub g) → ∃ u, Tr.In u t ∧ s = u.sub g
  | .o, h => absurd h.o h0
  | .n op w v a b c, h => by
    have A := Tr.in_sub g h0 a
    have B := Tr.in_sub g h0 b
    have C := Tr.in_sub g h0 c
    have up : (s = (Tr.n op w v a b c).sub g ∨ Tr.In s (a.sub g) ∨ Tr.In s (b.sub g) ∨ Tr.In s (c.sub g)) → ∃ u, Tr.In u (.n op w v a b c) ∧ s = u.sub g := by
      rintro (h | h | h | h)
      · exact ⟨_, .refl _, h⟩
      · obtain ⟨u, h1, h2⟩ := A h; exact ⟨u, .a h1, h2⟩
      · obtain ⟨u, h1, h2⟩ := B h; exact ⟨u, .b h1, h2⟩
      · obtain ⟨u, h1, h2⟩ := C h; exact ⟨u, .c h1, h2⟩
    refine up ?_
    rw [Tr.sub] at h ⊢
    by_cases h1 : op = 1
    · rw [if_pos h1] at h ⊢; exact .inl (Tr.In.leaf h h0)
    rw [if_neg h1] at h ⊢
    by_cases h2 : op = 2
    · rw [if_pos h2] at h ⊢
      cases hg : g v.toNat with
      | some x => rw [hg] at h; exact .inl (Tr.In.leaf h h0)
      | none => rw [hg] at h; exact .inl (Tr.In.leaf h h0)
    rw [if_neg h2] at h ⊢
    by_cases h16 : op = 16
    · rw [if_pos h16] at h ⊢
      unfold Tr.mkIte at h ⊢
      split at h
      · split at h
        · exact .inr (.inr (.inl h))
        · exact .inr (.inr (.inr h))
      · rename_i hk
        rw [if_neg hk]
        exact Tr.In.mk h h0
    rw [if_neg h16] at h ⊢
    by_cases h17 : op = 17 ∨ op = 18
    · rw [if_pos h17] at h ⊢
      unfold Tr.mkX at h ⊢
      split at h
      · exact .inr (.inl h)
      · rename_i hk
        rw [if_neg hk]
        rcases Tr.In.mk h h0 with h | h | h | h
        · exact .inl h
        · exact .inr (.inl h)
        · exact absurd h.o h0
        · exact absurd h.o h0
    rw [if_neg h17] at h ⊢
    rcases Tr.In.mk h h0 with h | h | h | h
    · exact .inl h
    · exact .inr (.inl h)
    · exact .inr (.inr (.inl h))
    · exact absurd h.o h0
/-- Numbers put in one behind another. -/
def subs (t : Tr) (l : List (Nat → Option Int)) : Tr := l.foldl (fun t g => t.sub g) t
theorem subs_snoc (t : Tr) (l : List (Nat → Option Int)) (g : Nat → Option Int) : subs t (l ++ [g]) = (subs t l).sub g := by simp [subs]
theorem subs_o : ∀ l : List (Nat → Option Int), subs .o l = .o
  | [] => rfl
  | g :: l => subs_o l
theorem in_subs {s : Tr} (h0 : s ≠ .o) : ∀ (l : List (Nat → Option Int)) (t : Tr), Tr.In s (subs t l) → ∃ u, Tr.In u t ∧ s = subs u l
  | [], t, h => ⟨s, h, rfl⟩
  | g :: l, t, h => by
    obtain ⟨u, h1, h2⟩ := in_subs h0 l (t.sub g) h
    obtain ⟨x, h3, h4⟩ := Tr.in_sub g (show u ≠ .o from fun e => h0 (by rw [h2, e, subs_o])) t h1
    exact ⟨x, h3, by rw [h2, h4]; rfl⟩
theorem reach_in {ns : List Nd} (hwf : WF ns) {x z : Int} (h : Reach ns x z) : Tr.In (tr ns z) (tr ns x) := by
  induction h with
  | refl => exact .refl _
  | step hr hn hp h1 ih =>
    refine Tr.In.trans ?_ ih
    rw [tr_of hwf hn]
    rcases hp with rfl | rfl | rfl
    · exact .a (.refl _)
    · exact .b (.refl _)
    · exact .c (.refl _)
/-- The trees of all terms. -/
def PT (ns : List Nd) : List Tr := (List.range ns.length).map fun (i : Nat) => tr ns ((i : Int) + 1)
theorem PT_len (ns : List Nd) : (PT ns).length = ns.length := by simp [PT]
theorem in_PT {ns : List Nd} (hwf : WF ns) {u : Tr} (h0 : u ≠ .o) : ∀ x, Tr.In u (tr ns x) → u ∈ PT ns :=
  tr_ind hwf _ (fun x h hu => absurd (by rw [tr_none h] at hu; exact hu.o) h0) fun x n hn ha hb hc hu => by
    rw [tr_of hwf hn] at hu
    rcases hu.cases with h | h | h | h
    · obtain ⟨k0, k1, _⟩ := nd_pos hn
      refine List.mem_map.2 ⟨(x - 1).toNat, List.mem_range.2 (by omega), ?_⟩
      rw [show (((x - 1).toNat : Nat) : Int) + 1 = x by omega, tr_of hwf hn, h]
    · exact ha h
    · exact hb h
    · exact hc h
open Classical in
theorem len_le {α : Type} : ∀ (l S : List α), l.Nodup → (∀ z ∈ l, z ∈ S) → l.length ≤ S.length
  | [], S, _, _ => Nat.zero_le _
  | a :: l, S, hd, h => by
    have ha := h a (List.mem_cons_self ..)
    obtain ⟨h1, h2⟩ := List.nodup_cons.1 hd
    have := len_le l (S.erase a) h2 fun z hz => (List.mem_erase_of_ne (fun e => h1 (by subst e; exact hz))).2 (h z (List.mem_cons_of_mem _ hz))
    rw [List.length_erase_of_mem ha] at this
    have : 0 < S.length := List.length_pos_of_mem ha
    rw [List.length_cons]; omega
/-- What all terms are: parts of the first ones with numbers in them. -/
def Cnt (ns nsk : List Nd) (G : List (List (Nat → Option Int))) : Prop := ∀ i : Nat, i < nsk.length → ∃ gs ∈ G, ∃ u ∈ PT ns, tr nsk ((i : Int) + 1) = subs u gs
theorem Cnt.start (ns : List Nd) {G : List (List (Nat → Option Int))} (h : [] ∈ G) : Cnt ns ns G := fun i hi => ⟨[], h, _, List.mem_map.2 ⟨i, List.mem_range.2 hi, rfl⟩, rfl⟩
theorem pairwise_map_nodup {α β : Type} {f : α → β} : ∀ {l : List α}, l.Nodup → (∀ x ∈ l, ∀ y ∈ l, f x = f y → x = y) → (l.map f).Nodup
  | [], _, _ => by simp
  | a :: l, hd, h => by
    obtain ⟨h1, h2⟩ := List.nodup_cons.1 hd
    rw [List.map_cons, List.nodup_cons]
    refine ⟨fun hm => ?_, pairwise_map_nodup h2 fun x hx y hy => h x (List.mem_cons_of_mem _ hx) y (List.mem_cons_of_mem _ hy)⟩
    obtain ⟨b, hb, e⟩ := List.mem_map.1 hm
    have := h b (List.mem_cons_of_mem _ hb) a (List.mem_cons_self ..) e
    subst this; exact h1 hb
section
variable {ns nsk nsk' : List Nd} {G : List (List (Nat → Option Int))} {gs : List (Nat → Option Int)} {g : Nat → Option Int} {x y : Int}
theorem Cnt.len (h : Cnt ns nsk G) (hwf : WF nsk) (once : ∀ (i j : Nat) (n : Nd), nsk[i]? = some n → nsk[j]? = some n → i = j) : nsk.length ≤ G.length * ns.length := by
  have hn : ((List.range nsk.length).map fun (i : Nat) => tr nsk ((i : Int) + 1)).Nodup := pairwise_map_nodup List.nodup_range fun i hi j hj e => by
    have hi := List.mem_range.1 hi
    have hj := List.mem_range.1 hj
    have := tr_inj hwf once ((i : Int) + 1) ⟨by omega, by omega⟩ ((j : Int) + 1) ⟨by omega, by omega⟩ e
    omega
  have := len_le _ (G.flatMap fun gs => (PT ns).map fun u => subs u gs) hn fun z hz => by
    obtain ⟨i, hi, rfl⟩ := List.mem_map.1 hz
    obtain ⟨gs, hgs, u, hu, e⟩ := h i (List.mem_range.1 hi)
    exact List.mem_flatMap.2 ⟨gs, hgs, List.mem_map.2 ⟨u, hu, e.symm⟩⟩
  rw [List.length_map, List.length_range, List.length_flatMap] at this
  refine Nat.le_trans this ?_
  clear this hn h
  induction G with
  | nil => simp
  | cons a G ih => simp [PT_len, Nat.add_mul]; simp [PT_len] at ih; omega
theorem Cnt.next (h : Cnt ns nsk G) (hwf : WF ns) (hwk : WF nsk) (hwk' : WF nsk') (hext : ∃ l, nsk' = nsk ++ l) (hy : tr nsk y = subs (tr ns x) gs) (hg : gs ++ [g] ∈ G) (N : NewP nsk nsk' y g) : Cnt ns nsk' G := fun i hi => by
  by_cases hlt : i < nsk.length
  · obtain ⟨a, ha, u, hu, e⟩ := h i hlt
    exact ⟨a, ha, u, hu, by rw [(ext_tr hwk' hext (x := (i : Int) + 1) ⟨by omega, by omega⟩).2]; exact e⟩
  · obtain ⟨z, h1, h2, hr, e⟩ := N i (by omega) hi
    have hin := reach_in hwk hr
    rw [hy] at hin
    have hnz : tr nsk' ((i : Int) + 1) ≠ .o := tr_some hwk' ⟨by omega, by omega⟩
    have h0 : tr nsk z ≠ .o := fun e0 => hnz (by rw [e, e0]; rfl)
    obtain ⟨u, hu, e1⟩ := in_subs h0 gs _ hin
    refine ⟨_, hg, u, in_PT hwf (fun e0 => h0 (by rw [e1, e0, subs_o])) x hu, ?_⟩
    rw [e, e1, subs_snoc]
theorem wl_len (hwf : WF ns) (hwk : WF nsk) (once : ∀ (i j : Nat) (n : Nd), nsk[i]? = some n → nsk[j]? = some n → i = j) (hyT : isT nsk y) (hy : tr nsk y = subs (tr ns x) gs) {ls : List Int} (h : Wl nsk y ls) : ls.length ≤ ns.length := by
  have hT : ∀ z ∈ ls, isT nsk z := fun z hz => by
    have := h.all z hz
    exact ⟨this.1, by have := hyT.2; omega⟩
  have hn : (ls.map (tr nsk)).Nodup := pairwise_map_nodup (h.lt.imp fun hlt => by omega) fun i hi j hj e => tr_inj hwk once i (hT i hi) j (hT j hj) e
  have := len_le _ ((PT ns).map fun u => subs u gs) hn fun t ht => by
    obtain ⟨z, hz, rfl⟩ := List.mem_map.1 ht
    have hin := reach_in hwk (h.all z hz).2.2
    rw [hy] at hin
    have h0 := tr_some hwk (hT z hz)
    obtain ⟨u, hu, e1⟩ := in_subs h0 gs _ hin
    exact List.mem_map.2 ⟨u, in_PT hwf (fun e0 => h0 (by rw [e1, e0, subs_o])) x hu, e1.symm⟩
  simpa [PT_len] using this
end
/-! ### What they are worth -/
def pat (g : Nat → Option Int) (e : List Int) : List Int := (List.range 64).map fun i => (g i).getD (e.getD i 0)
theorem pat_at (g : Nat → Option Int) (e : List Int) {i : Nat} (hi : i < 64) : (pat g e).getD i 0 = (g i).getD (e.getD i 0) := by
  rw [List.getD_eq_getElem?_getD]; simp [pat, hi]
theorem pat_agree (g : Nat → Option Int) (e : List Int) : Tr.Agree g e (pat g e) := fun i hi => by rw [pat_at g e hi]; cases g i <;> simp
theorem subs_wf : ∀ (l : List (Nat → Option Int)) {t : Tr}, t.wf → (subs t l).wf
  | [], _, h => h
  | g :: l, _, h => subs_wf l (Tr.sub_ok g h).wf
theorem subs_w : ∀ (l : List (Nat → Option Int)) {t : Tr}, t.wf → (subs t l).w = t.w
  | [], _, h => rfl
  | g :: l, _, h => (subs_w l (Tr.sub_ok g h).wf).trans (Tr.sub_ok g h).w
theorem subs_ev (e : List Int) : ∀ (l : List (Nat → Option Int)) {t : Tr}, t.wf → (subs t l).ev e = t.ev (l.foldr pat e)
  | [], _, h => rfl
  | g :: l, t, h => (subs_ev e l (Tr.sub_ok g h).wf).trans ((Tr.sub_ok g h).ev _ _ (pat_agree g _))
def fnd : List (Int × Int) → Nat → Option Int
  | [], _ => none
  | p :: l, i => if p.1 = (i : Int) then some p.2 else fnd l i
theorem fnd_cons (p : Int × Int) (l : List (Int × Int)) (i : Nat) : fnd (p :: l) i = if p.1 = (i : Int) then some p.2 else fnd l i := rfl
theorem gof_fold : ∀ (l : List (Int × Int)) (g : Nat → Option Int) (i : Nat), i < 64 → (l.foldl (fun g p => gput g p.1 p.2) g) i = (g i).or (fnd l i)
  | [], g, i, _ => by simp [fnd]
  | p :: l, g, i, hi => by
    rw [List.foldl_cons, gof_fold l _ i hi, fnd_cons]
    unfold gput
    by_cases hc : 0 ≤ p.1 ∧ p.1 < 64 ∧ g p.1.toNat = none
    · rw [if_pos hc]
      obtain ⟨h0, h1, h2⟩ := hc
      by_cases e : p.1 = (i : Int)
      · rw [if_pos e]
        have e2 : i = p.1.toNat := by omega
        rw [← e2] at h2
        simp only [if_pos e2, h2]; rfl
      · rw [if_neg e]
        have e2 : ¬ i = p.1.toNat := by omega
        simp only [if_neg e2]
    · rw [if_neg hc]
      by_cases e : p.1 = (i : Int)
      · rw [if_pos e]
        have e2 : p.1.toNat = i := by omega
        cases hg : g i with
        | some u => rfl
        | none => exact absurd ⟨by omega, by omega, by rw [e2]; exact hg⟩ hc
      · rw [if_neg e]
theorem gof_fnd (l : List (Int × Int)) {i : Nat} (hi : i < 64) : gof l i = fnd l i := by
  unfold gof; rw [gof_fold l _ i hi]; rfl
theorem pat_one (l : List (Int × Int)) (e : List Int) (he : e.length = 64) : pat (gof l) e = (l.map fun p => gof [p]).foldr pat e := by
  have key : ∀ l : List (Int × Int), ((l.map fun p => gof [p]).foldr pat e).length = 64 := fun l => by cases l <;> simp [pat, he]
  refine List.ext_getElem (by rw [key]; simp [pat]) fun i h1 h2 => ?_
  have hi : i < 64 := by simpa [pat] using h1
  have c : ∀ (a : List Int) (h : i < a.length), a[i] = a.getD i 0 := fun a h => by rw [List.getD_eq_getElem?_getD, List.getElem?_eq_getElem h]; rfl
  rw [c _ h1, c _ h2, pat_at _ _ hi, gof_fnd l hi]
  clear h1 h2 key
  induction l with
  | nil => rfl
  | cons p l ih =>
    rw [List.map_cons, List.foldr_cons, pat_at _ _ hi, gof_fnd [p] hi, ← ih]
    rw [fnd_cons, fnd_cons]
    by_cases e2 : p.1 = (i : Int)
    · rw [if_pos e2, if_pos e2]; rfl
    · rw [if_neg e2, if_neg e2]; rfl
end Go.Proofs.YtgbmiphaabeodaaDoor
