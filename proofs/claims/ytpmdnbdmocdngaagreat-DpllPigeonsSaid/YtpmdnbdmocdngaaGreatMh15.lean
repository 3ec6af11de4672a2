/-
  Parts of the proof, joined: DpllJ, DpllX, DpllN.
-/
import Derived.Test.YtpmdnbdmocdngaaGreatMh11
import Derived.Test.YtpmdnbdmocdngaaGreatMh14
import Derived.Test.YtpmdnbdmocdngaaGreatMh12

namespace Go.Proofs.YtpmdnbdmocdngaaGreat
open Go.RowKit
set_option linter.unusedVariables false
set_option linter.unusedSimpArgs false

/-- Claims with their literals in another order. -/
structure CP (cls cls' : List Cl) : Prop where
  len : cls'.length = cls.length
  get : ∀ (k : Nat) c, cls[k]? = some c → ∃ c', cls'[k]? = some c' ∧ c'.ls.Perm c.ls ∧ c'.sp = c.sp
theorem CP.refl (cls : List Cl) : CP cls cls := ⟨rfl, fun k c h => ⟨c, h, List.Perm.refl _, rfl⟩⟩
theorem CP.trans {a b c : List Cl} (h : CP a b) (g : CP b c) : CP a c := ⟨g.len.trans h.len, fun k x hx => by
  obtain ⟨y, hy, p, s⟩ := h.get k x hx
  obtain ⟨z, hz, p2, s2⟩ := g.get k y hy
  exact ⟨z, hz, p2.trans p, s2.trans s⟩⟩
theorem CP.back {a b : List Cl} (h : CP a b) {k : Nat} {c : Cl} (hc : b[k]? = some c) : ∃ c0, a[k]? = some c0 ∧ c.ls.Perm c0.ls := by
  have hk := (List.getElem?_eq_some_iff.1 hc).1
  obtain ⟨c0, h0⟩ : ∃ c0, a[k]? = some c0 := ⟨_, List.getElem?_eq_getElem (by rw [← h.len]; exact hk)⟩
  obtain ⟨c', hc', hp, _⟩ := h.get k c0 h0
  rw [hc] at hc'; injection hc' with hc'; subst hc'
  exact ⟨c0, h0, hp⟩
theorem CP.set {cls : List Cl} {k : Nat} {c c' : Cl} (hk : cls[k]? = some c) (hp : c'.ls.Perm c.ls) (hs : c'.sp = c.sp) : CP cls (cls.set k c') := ⟨List.length_set .., fun i x hx => by
  by_cases e : k = i
  · subst e
    rw [hk] at hx; injection hx with hx; subst hx
    exact ⟨c', List.getElem?_set_self (List.getElem?_eq_some_iff.1 hk).1, hp, hs⟩
  · exact ⟨x, by rw [List.getElem?_set_ne e]; exact hx, List.Perm.refl _, rfl⟩⟩
theorem set_cases {α : Type} {l : List α} {k i : Nat} {x y : α} (h : (l.set k x)[i]? = some y) : (i = k ∧ y = x) ∨ (i ≠ k ∧ l[i]? = some y) := by
  by_cases e : k = i
  · subst e
    have hl := (List.getElem?_eq_some_iff.1 h).1
    rw [List.length_set] at hl
    rw [List.getElem?_set_self hl] at h
    injection h with h
    exact .inl ⟨rfl, h.symm⟩
  · rw [List.getElem?_set_ne e] at h; exact .inr ⟨fun e' => e e'.symm, h⟩
section
variable {n : Nat} {K0 : Nat → Prop} {d : Sd} {Mo : (Nat → Bool) → Prop}
theorem Cs.set {cls : List Cl} (h : Cs n K0 cls) {k : Nat} {c c' : Cl} (hk : cls[k]? = some c) (hp : c'.ls.Perm c.ls) (hf : ∃ f : Nat, c'.fr = (f : Int) ∧ 2 ≤ f ∧ f ≤ c'.ls.length) : Cs n K0 (cls.set k c') := by
  refine ⟨fun i x hx => ?_, fun i x hx => ?_, fun i x hx q hq => ?_, fun i x hx => ?_⟩ <;> rcases set_cases hx with ⟨rfl, rfl⟩ | ⟨_, hx⟩
  · rw [hp.length_eq]; exact h.len _ _ hk
  · exact h.len _ _ hx
  · exact hp.nodup_iff.2 (h.nd _ _ hk)
  · exact h.nd _ _ hx
  · exact h.lt _ _ hk q (hp.mem_iff.1 hq)
  · exact h.lt _ _ hx q hq
  · exact hf
  · exact h.fr _ _ hx
theorem Wy.perm (h : Wy d) {cls : List Cl} (p : CP d.cls cls) : Wy { d with cls := cls } := fun j q hj hl => by
  rcases h j q hj hl with h | ⟨h1, k, c, a, b, e, f⟩
  · exact .inl h
  · obtain ⟨c', hc', hp, _⟩ := p.get k c b
    exact .inr ⟨h1, k, c', a, hc', hp.mem_iff.2 e, fun y hy => f y (hp.mem_iff.1 hy)⟩
theorem Sem.perm (h : Sem Mo d) {cls : List Cl} (p : CP d.cls cls) : Sem Mo { d with cls := cls } := fun m hm => by
  obtain ⟨h1, h2⟩ := h m hm
  refine ⟨fun k c hc => ?_, h2⟩
  obtain ⟨c0, h0, hp⟩ := p.back (show cls[k]? = some c from hc)
  obtain ⟨q, hq, hq2⟩ := h1 k c0 h0
  exact ⟨q, hp.mem_iff.2 hq, hq2⟩
theorem Tl.neg (t : Tl n K0 d) {x : Nat} (hx : x < 2 * n) (h : oth x ∈ d.tr) : wv d.wo x = -1 := by
  have h1 := (t.one (oth x) (oth_lt hx)).2 (.inl h)
  have h2 := t.w.opp x hx
  omega
/-- A claim watches others than it did, which are not gone. -/
theorem Pr.reset {E : Nat → Nat → Prop} (h : Pr d E) (t : Tl n K0 d) (cs : Cs n K0 d.cls) {k : Nat} {c c' : Cl} (hk : d.cls[k]? = some c) (hp : c'.ls.Perm c.ls) (hw : ∀ i x, i < 2 → c'.ls[i]? = some x → (∃ i', i' < 2 ∧ c.ls[i']? = some x) ∨ 0 ≤ wv d.wo x) : Pr { d with cls := d.cls.set k c' } E := by
  intro i0 c0 i x hc hi hx hj
  rcases set_cases (show (d.cls.set k c')[i0]? = some c0 from hc) with ⟨rfl, rfl⟩ | ⟨_, hc⟩
  · rcases hw i x hi hx with ⟨i', hi', hx'⟩ | hx0
    · rcases h _ _ i' x hk hi' hx' hj with h1 | ⟨y, hy, h2⟩
      · exact .inl h1
      · exact .inr ⟨y, hp.mem_iff.2 hy, h2⟩
    · exfalso
      obtain ⟨j, _, hj⟩ := hj
      have hxn := (cs.lt _ _ hk x (hp.mem_iff.1 (List.mem_of_getElem? hx))).1
      have := t.neg hxn (List.mem_of_getElem? (show d.tr[j]? = some (oth x) from hj))
      have hx0 : 0 ≤ wv d.wo x := hx0
      omega
  · exact h _ _ i x hc hi hx hj
theorem Pr.less {E E' : Nat → Nat → Prop} (h : Pr d E) (he : ∀ k x, E k x → E' k x ∨ ∀ c i, d.cls[k]? = some c → i < 2 → c.ls[i]? = some x → ∃ y ∈ c.ls, wv d.wo y = 1 ∧ dpt d.dp y ≤ dpt d.dp x) : Pr d E' := by
  intro k c i x hk hi hx hj
  rcases h k c i x hk hi hx hj with h1 | h1
  · rcases he k x h1 with h2 | h2
    · exact .inl h2
    · exact .inr (h2 c i hk hi hx)
  · exact .inr h1
/-- Which claims watch what. -/
structure Wt (n : Nat) (cls : List Cl) (F : Nat → List (Nat × Nat)) : Prop where
  wa : ∀ q, q < 2 * n → ∀ k y, (k, y) ∈ F q → ∃ c, cls[k]? = some c ∧ (c.ls[0]? = some q ∨ c.ls[1]? = some q) ∧ y ∈ c.ls ∧ y ≠ q
  wb : ∀ (k : Nat) c (i x : Nat), cls[k]? = some c → i < 2 → c.ls[i]? = some x → ∃ y, (k, y) ∈ F x
  wc : ∀ q, q < 2 * n → ((F q).map (·.1)).Nodup
  wd : ∀ q, 2 * n ≤ q → F q = []
theorem Wt.all {cls : List Cl} {F : Nat → List (Nat × Nat)} (h : Wt n cls F) (q : Nat) : (F q).length ≤ cls.length := by
  by_cases hq : q < 2 * n
  · have := nodup_le cls.length _ (h.wc q hq) fun z hz => by
      obtain ⟨⟨k, y⟩, hk, e⟩ := List.mem_map.1 hz
      obtain ⟨c, hc, _⟩ := h.wa q hq k y hk
      have e : k = z := e
      rw [← e]; exact (List.getElem?_eq_some_iff.1 hc).1
    rwa [List.length_map] at this
  · rw [h.wd q (by omega)]; exact Nat.zero_le _
theorem Wt.len {cls : List Cl} {F : Nat → List (Nat × Nat)} (h : Wt n cls F) {q : Nat} (hq : q < 2 * n) : (F q).length ≤ cls.length := by
  have := nodup_le cls.length _ (h.wc q hq) fun z hz => by
    obtain ⟨⟨k, y⟩, hk, e⟩ := List.mem_map.1 hz
    obtain ⟨c, hc, _⟩ := h.wa q hq k y hk
    have e : k = z := e
    rw [← e]; exact (List.getElem?_eq_some_iff.1 hc).1
  rwa [List.length_map] at this
abbrev Fs (F : Nat → List (Nat × Nat)) (q : Nat) (l : List (Nat × Nat)) : Nat → List (Nat × Nat) := fun r => if r = q then l else F r
/-- The first two of a claim change places. -/
theorem Wt.swap {cls : List Cl} {F : Nat → List (Nat × Nat)} (h : Wt n cls F) {k : Nat} {c c' : Cl} (hk : cls[k]? = some c) (hp : c'.ls.Perm c.ls) (e0 : c'.ls[0]? = c.ls[1]?) (e1 : c'.ls[1]? = c.ls[0]?) : Wt n (cls.set k c') F := by
  have hl := (List.getElem?_eq_some_iff.1 hk).1
  refine ⟨fun q hq i y hy => ?_, fun i c0 j x hc hj hx => ?_, h.wc, h.wd⟩
  · obtain ⟨c0, h0, h1, h2, h3⟩ := h.wa q hq i y hy
    by_cases e : k = i
    · subst e
      rw [hk] at h0; injection h0 with h0; subst h0
      exact ⟨c', List.getElem?_set_self hl, by rw [e0, e1]; exact h1.symm, hp.mem_iff.2 h2, h3⟩
    · exact ⟨c0, by rw [List.getElem?_set_ne e]; exact h0, h1, h2, h3⟩
  · rcases set_cases hc with ⟨rfl, rfl⟩ | ⟨_, hc⟩
    · match j, hj with
      | 0, _ => rw [e0] at hx; exact h.wb _ _ 1 x hk (by decide) hx
      | 1, _ => rw [e1] at hx; exact h.wb _ _ 0 x hk (by decide) hx
    · exact h.wb _ _ j x hc hj hx
/-- A watch bears another literal of its claim. -/
theorem Wt.rename {cls : List Cl} {F : Nat → List (Nat × Nat)} (h : Wt n cls F) {k y z g : Nat} (hg : g < 2 * n) {c : Cl} {kept rest : List (Nat × Nat)} (hF : F g = kept ++ (k, y) :: rest) (hk : cls[k]? = some c) (hz : z ∈ c.ls) (hzg : z ≠ g) : Wt n cls (Fs F g (kept ++ (k, z) :: rest)) := by
  refine ⟨fun q hq i x hx => ?_, fun i c0 j x hc hj hx => ?_, fun q hq => ?_, fun q hq => by show (if q = g then _ else F q) = []; rw [if_neg (by omega)]; exact h.wd q hq⟩
  · by_cases e : q = g
    · subst e
      have hx : (i, x) ∈ kept ++ (k, z) :: rest := by
        have := hx
        rwa [show Fs F q (kept ++ (k, z) :: rest) q = kept ++ (k, z) :: rest from if_pos rfl] at this
      rcases List.mem_append.1 hx with hx | hx
      · exact h.wa q hq i x (by rw [hF]; exact List.mem_append_left _ hx)
      · rcases List.mem_cons.1 hx with hx | hx
        · injection hx with h1 h2; subst h1; subst h2
          obtain ⟨c0, h0, h1, _, _⟩ := h.wa q hq i y (by rw [hF]; simp)
          rw [hk] at h0; injection h0 with h0; subst h0
          exact ⟨c, hk, h1, hz, hzg⟩
        · exact h.wa q hq i x (by rw [hF]; exact List.mem_append_right _ (List.mem_cons_of_mem _ hx))
    · exact h.wa q hq i x (by
        have := hx
        rwa [show Fs F g (kept ++ (k, z) :: rest) q = F q from if_neg e] at this)
  · obtain ⟨u, hu⟩ := h.wb i c0 j x hc hj hx
    by_cases e : x = g
    · subst e
      rw [hF] at hu
      show ∃ y, (i, y) ∈ if x = x then _ else _
      rw [if_pos rfl]
      rcases List.mem_append.1 hu with hu | hu
      · exact ⟨u, List.mem_append_left _ hu⟩
      · rcases List.mem_cons.1 hu with hu | hu
        · injection hu with h1 h2; subst h1
          exact ⟨z, List.mem_append_right _ (List.mem_cons_self ..)⟩
        · exact ⟨u, List.mem_append_right _ (List.mem_cons_of_mem _ hu)⟩
    · refine ⟨u, ?_⟩
      show (i, u) ∈ if x = g then _ else _
      rw [if_neg e]; exact hu
  · show ((if q = g then _ else F q).map (·.1)).Nodup
    split
    · rename_i e; subst e
      have := h.wc q hq
      rw [hF] at this
      simpa using this
    · exact h.wc q hq
/-- A claim watches q in g's place. -/
theorem Wt.move {cls : List Cl} {F : Nat → List (Nat × Nat)} (h : Wt n cls F) {g : Nat} (hg : g < 2 * n) {k y first q : Nat} (hqn : q < 2 * n) {c c' : Cl} {kept rest : List (Nat × Nat)} (hF : F g = kept ++ (k, y) :: rest) (hk : cls[k]? = some c) (hp : c'.ls.Perm c.ls) (nd : c.ls.Nodup) (h0 : c.ls[0]? = some first) (h1 : c.ls[1]? = some g) (h0' : c'.ls[0]? = some first) (h1' : c'.ls[1]? = some q) {j : Nat} (hj : 2 ≤ j) (hq : c.ls[j]? = some q) : Wt n (cls.set k c') (fun r => if r = q then F q ++ [(k, first)] else if r = g then kept ++ rest else F r) := by
  have hl := (List.getElem?_eq_some_iff.1 hk).1
  have ne : ∀ (i i' x x' : Nat), i ≠ i' → c.ls[i]? = some x → c.ls[i']? = some x' → x ≠ x' := fun i i' x x' hi h h' => nd_ne nd hi h h'
  have nfg : first ≠ g := ne 0 1 _ _ (by decide) h0 h1
  have nqg : q ≠ g := ne j 1 _ _ (by omega) hq h1
  have nqf : q ≠ first := ne j 0 _ _ (by omega) hq h0
  have kg := h.wc g hg
  rw [hF] at kg
  have hkn : k ∉ (kept ++ rest).map (·.1) := by
    rw [List.map_append, List.map_cons] at kg
    have h1 := List.nodup_append.1 kg
    rw [List.map_append, List.mem_append]
    rintro (hm | hm)
    · exact h1.2.2 k hm k (List.mem_cons_self ..) rfl
    · exact (List.nodup_cons.1 h1.2.1).1 hm
  refine ⟨fun r hr i x hx => ?_, fun i c0 i' x hc hi hx => ?_, fun r hr => ?_, fun r hr => by show (if r = q then _ else if r = g then _ else F r) = []; rw [if_neg (by omega), if_neg (by omega)]; exact h.wd r hr⟩
  · have old : ∀ r, r < 2 * n → (i, x) ∈ F r → (i = k → r ≠ g) → ∃ c, (cls.set k c')[i]? = some c ∧ (c.ls[0]? = some r ∨ c.ls[1]? = some r) ∧ x ∈ c.ls ∧ x ≠ r := fun r hr hx hne => by
      obtain ⟨c0, a0, a1, a2, a3⟩ := h.wa r hr i x hx
      by_cases e : k = i
      · subst e
        rw [hk] at a0; injection a0 with a0; subst a0
        refine ⟨c', List.getElem?_set_self hl, ?_, hp.mem_iff.2 a2, a3⟩
        rcases a1 with a1 | a1
        · rw [h0] at a1; injection a1 with a1; subst a1; exact .inl h0'
        · rw [h1] at a1; injection a1 with a1; exact absurd a1.symm (hne rfl)
      · exact ⟨c0, by rw [List.getElem?_set_ne e]; exact a0, a1, a2, a3⟩
    by_cases e : r = q
    · subst e
      have hx : (i, x) ∈ F r ++ [(k, first)] := by have := hx; rwa [if_pos rfl] at this
      rcases List.mem_append.1 hx with hx | hx
      · exact old r hr hx (fun _ => nqg)
      · have hx := List.mem_singleton.1 hx
        injection hx with a1 a2; subst a1; subst a2
        exact ⟨c', List.getElem?_set_self hl, .inr h1', List.mem_of_getElem? h0', fun e => nqf e.symm⟩
    · by_cases e2 : r = g
      · subst e2
        have hx : (i, x) ∈ kept ++ rest := by have := hx; rwa [if_neg e, if_pos rfl] at this
        have hik : i ≠ k := fun e => hkn (by rw [← e]; exact List.mem_map.2 ⟨(i, x), hx, rfl⟩)
        exact old r hr (by rw [hF]; rcases List.mem_append.1 hx with hx | hx; exact List.mem_append_left _ hx; exact List.mem_append_right _ (List.mem_cons_of_mem _ hx)) (fun e => absurd e hik)
      · exact old r hr (by have := hx; rwa [if_neg e, if_neg e2] at this) (fun _ => e2)
  · have old : ∀ u, (i, u) ∈ F x → (i = k → x ≠ g) → ∃ y, (i, y) ∈ if x = q then F q ++ [(k, first)] else if x = g then kept ++ rest else F x := fun u hu hne => by
      refine ⟨u, ?_⟩
      by_cases e : x = q
      · rw [if_pos e, ← e]; exact List.mem_append_left _ hu
      · rw [if_neg e]
        by_cases e2 : x = g
        · rw [if_pos e2]
          rw [e2, hF] at hu
          rcases List.mem_append.1 hu with hu | hu
          · exact List.mem_append_left _ hu
          · rcases List.mem_cons.1 hu with hu | hu
            · injection hu with a1 _; exact absurd e2 (hne a1)
            · exact List.mem_append_right _ hu
        · rw [if_neg e2]; exact hu
    rcases set_cases hc with ⟨rfl, rfl⟩ | ⟨hik, hc⟩
    · match i', hi with
      | 0, _ =>
        rw [h0'] at hx; injection hx with hx; subst hx
        obtain ⟨u, hu⟩ := h.wb _ _ 0 _ hk (by decide) h0
        exact old u hu (fun _ => nfg)
      | 1, _ =>
        rw [h1'] at hx; injection hx with hx; subst hx
        exact ⟨first, by rw [if_pos rfl]; simp⟩
    · obtain ⟨u, hu⟩ := h.wb _ _ i' x hc hi hx
      exact old u hu (fun e => absurd e hik)
  · show ((if r = q then _ else if r = g then _ else F r).map (·.1)).Nodup
    split
    · rename_i e; subst e
      rw [List.map_append, List.nodup_append]
      refine ⟨h.wc r hr, by simp, fun a ha b hb e => ?_⟩
      have hb : b = k := by simpa using hb
      subst hb; subst e
      obtain ⟨⟨a', y'⟩, hm, e⟩ := List.mem_map.1 ha
      have e : a' = a := e
      subst e
      obtain ⟨c0, a0, a1, _, _⟩ := h.wa r hr a' y' hm
      rw [hk] at a0; injection a0 with a0; subst a0
      rcases a1 with a1 | a1
      · rw [h0] at a1; injection a1 with a1; exact nqf a1.symm
      · rw [h1] at a1; injection a1 with a1; exact nqg a1.symm
    · split
      · rw [List.map_append, List.map_cons] at kg
        rw [List.map_append]
        exact kg.sublist (List.Sublist.append_left (List.sublist_cons_self _ _) _)
      · exact h.wc r hr
end
/-! ### What following keeps -/
structure Fol (d d' : Sd) : Prop where
  cp : CP d.cls d'.cls
  tr : ∃ ext, d'.tr = d.tr ++ ext
  dpn : ∀ N, (∀ v ∈ d.dp, v ≤ N) → d.ma.length ≤ N → ∀ v ∈ d'.dp, v ≤ N
  same : ∃ cls F wo tr nx dp wy gq gv, d' = { d with cls := cls, F := F, wo := wo, tr := tr, nx := nx, dp := dp, wy := wy, gq := gq, gv := gv }
theorem Fol.refl (d : Sd) : Fol d d := ⟨CP.refl _, ⟨[], by simp⟩, fun _ h _ => h, _, _, _, _, _, _, _, _, _, rfl⟩
theorem Fol.trans {a b c : Sd} (h : Fol a b) (g : Fol b c) : Fol a c := by
  obtain ⟨e1, h1⟩ := h.tr
  obtain ⟨e2, h2⟩ := g.tr
  have hd := h.dpn
  have hg := g.dpn
  have hc := h.cp
  have gc := g.cp
  obtain ⟨_, _, _, _, _, _, _, _, _, rfl⟩ := h.same
  obtain ⟨_, _, _, _, _, _, _, _, _, rfl⟩ := g.same
  exact ⟨hc.trans gc, ⟨e1 ++ e2, by rw [h2, h1, List.append_assoc]⟩, fun N x y => hg N (hd N x y) y, _, _, _, _, _, _, _, _, _, rfl⟩
end Go.Proofs.YtpmdnbdmocdngaaGreat

namespace Go.Proofs.YtpmdnbdmocdngaaGreat
open Go.ChangeShapes Go.WideShapes Go.ChangeAt Go.RowKit
set_option linter.unusedVariables false
set_option linter.unusedSimpArgs false

/-- Of what is not the search's, what is elder than B0 stays. -/
structure Stq (B0 : Nat) (τ τ' : Nat → Nat) (w w' : World) : Prop where
  os : w'.os = w.os
  tape : w'.tape = w.tape
  output : w'.output = w.output
  size : w.heap.size ≤ w'.heap.size
  block : ∀ b, b < w.heap.size → τ b = 0 → b < B0 → w'.heap[b]? = w.heap[b]?
  tag : ∀ b, b < w.heap.size → τ b = 0 → τ' b = 0
section
variable {B0 B : Nat} {τ τ' τ'' : Nat → Nat} {w w' w'' : World} {p n : Nat} {d : Sd}
theorem Stq.of_stp (h : Stp τ τ' w w') : Stq B0 τ τ' w w' := ⟨h.kept.os, h.kept.tape, h.kept.output, h.kept.size, fun b hb h0 _ => h.kept.block b hb (fun hn => hn h0), h.tag⟩
theorem Stq.refl (B0 : Nat) (τ : Nat → Nat) (w : World) : Stq B0 τ τ w w := .of_stp (Stp.refl τ w)
theorem Stq.trans (h : Stq B0 τ τ' w w') (k : Stq B0 τ' τ'' w' w'') : Stq B0 τ τ'' w w'' :=
  ⟨k.os.trans h.os, k.tape.trans h.tape, k.output.trans h.output, Nat.le_trans h.size k.size, fun b hb h0 hB => (k.block b (Nat.lt_of_lt_of_le hb h.size) (h.tag b hb h0) hB).trans (h.block b hb h0 hB), fun b hb h0 => k.tag b (Nat.lt_of_lt_of_le hb h.size) (h.tag b hb h0)⟩
theorem Stq.stp (h : Stp τ τ' w w') (k : Stq w.heap.size τ' τ'' w' w'') : Stp τ τ'' w w'' :=
  ⟨⟨k.os.trans h.kept.os, k.tape.trans h.kept.tape, k.output.trans h.kept.output, Nat.le_trans h.kept.size k.size, fun b hb hn => by
    have h0 : τ b = 0 := Classical.byContradiction hn
    exact (k.block b (Nat.lt_of_lt_of_le hb h.kept.size) (h.tag b hb h0) hb).trans (h.kept.block b hb hn)⟩, fun b hb h0 => k.tag b (Nat.lt_of_lt_of_le hb h.kept.size) (h.tag b hb h0)⟩
theorem Stq.alike {W : World} (h : Stq B0 τ τ' w w') (he : W.heap = w'.heap) (h1 : W.os = w'.os) (h2 : W.tape = w'.tape) (h3 : W.output = w'.output) : Stq B0 τ τ' w W :=
  h.trans (.of_stp ((Stp.refl τ' w').alike he h1 h2 h3))
theorem RowN.stp {e : TypeId} {s m : Nat} {v : Value} {xs : List Value} (h : RowN τ 0 w e s v m xs) (k : Stp τ τ' w w') : RowN τ' 0 w' e s v m xs := by
  rcases h.1.2 with ⟨h0, h1⟩ | ⟨g, cap, cur, h0, hb, hg, h1, h2, h3, h4⟩
  · exact ⟨⟨h.1.1, .inl ⟨h0, h1⟩⟩, fun g hg => by rw [h0] at hg; cases hg⟩
  · have hr := h.2 g (by rw [h0]; rfl)
    have hl := lt_of_heap hg
    refine ⟨⟨h.1.1, .inr ⟨g, cap, cur, h0, hb, (k.kept.block g hl (fun hn => hn hr)).trans hg, h1, h2, h3, h4⟩⟩, fun b hb => ?_⟩
    rw [h0] at hb
    have : g = b := by simpa [Value.ownBlock] using hb
    subst this
    exact k.tag g hl hr
theorem own_other {w : World} {base : Nat} {e : TypeId} {s m c g : Nat} {xs : List Value} {q : Addr} {u : Value} (h : w.ownsRow base e s (.slice (some ⟨g, 0, none⟩) m c) m xs) (hne : g ≠ q.block) : (w.setCell q u).ownsRow base e s (.slice (some ⟨g, 0, none⟩) m c) m xs := by
  refine ⟨h.1, h.2.imp id ?_⟩
  rintro ⟨g', cap, cur, a, b, c, d⟩
  have eg : g = g' := by injection a with a _ _; injection a with a; injection a
  exact ⟨g', cap, cur, a, b, (set_other (by rw [← eg]; exact hne)).trans c, d⟩
/-- A variable that holds a list of literals. -/
structure Bx (B0 : Nat) (τ : Nat → Nat) (w : World) (b : Nat) (A : Option Addr) (cap : Nat) (ls : List Nat) : Prop where
  role : τ b = 0
  ge : B0 ≤ b
  at_ : w.cell? ⟨b, 0, none⟩ = some (.slice A ls.length cap)
  free : w.frozen? ⟨b, 0, none⟩ = false
  row : RowN τ 0 w 138 1 (.slice A ls.length cap) ls.length (n32 ls)
  rowge : ∀ g, Value.ownBlock (.slice A ls.length cap) = some g → B0 ≤ g ∧ g ≠ b
variable {b cap : Nat} {A : Option Addr} {ls : List Nat}
theorem frozen_block {a : Addr} (h : w'.heap[a.block]? = w.heap[a.block]?) : w'.frozen? a = w.frozen? a := World.frozen?_of_block h
theorem Bx.lt (h : Bx B0 τ w b A cap ls) : b < w.heap.size := lt_of_cell h.at_
theorem Bx.step (h : Bx B0 τ w b A cap ls) (k : Stp τ τ' w w') : Bx B0 τ' w' b A cap ls := by
  have e := k.kept.block b h.lt (fun hn => hn h.role)
  exact ⟨k.tag b h.lt h.role, h.ge, (World.cell?_of_block (a := ⟨b, 0, none⟩) e).trans h.at_, (frozen_block (a := ⟨b, 0, none⟩) e).trans h.free, h.row.stp k, h.rowge⟩
theorem Bx.below (h : Bx B0 τ w b A cap ls) (k : Below w.heap.size w w') : Bx B0 τ w' b A cap ls := h.step (Stp.of_below τ k)
/-- One more literal put behind. -/
theorem Bx.fin (h : Bx B0 τ w b A cap ls) (s : Sr B τ w p n d) (hB : B ≤ B0) (hB2 : B0 ≤ w.heap.size) (x : Nat) : ∀ (wp : World) (c g1 : Nat), (w.alloc (.cells #[.int .i32 (x : Int)] 138)).grownBy wp (Value.slice A ls.length cap).ownBlock → wp.ownsRow 0 138 1 (.slice (some ⟨g1, 0, none⟩) (ls.length + 1) c) (ls.length + 1) ((n32 ls) ++ [.int .i32 (x : Int)]) → ((Value.slice A ls.length cap).ownBlock = some g1 ∨ g1 = w.heap.size + 1) →
    (wp.cell? ⟨b, 0, none⟩ = some (.slice A ls.length cap) ∧ wp.frozen? ⟨b, 0, none⟩ = false) ∧ ∃ τ' A' c', Sr B τ' (wp.setCell ⟨b, 0, none⟩ (.slice (some ⟨g1, 0, none⟩) (ls.length + 1) c)) p n d ∧ Bx B0 τ' (wp.setCell ⟨b, 0, none⟩ (.slice (some ⟨g1, 0, none⟩) (ls.length + 1) c)) b A' c' (ls ++ [x]) ∧ Stq B0 τ τ' w (wp.setCell ⟨b, 0, none⟩ (.slice (some ⟨g1, 0, none⟩) (ls.length + 1) c)) := fun wp c g1 hg hown hat => by
  have b1 : Below w.heap.size w (w.alloc (.cells #[.int .i32 (x : Int)] 138)) := (Below.refl _ _).alloc (Nat.le_refl _) _
  have h1 := h.below b1
  have hat2 : τ g1 = 0 ∨ (w.alloc (.cells #[.int .i32 (x : Int)] 138)).heap.size ≤ g1 := hat.imp (fun e => h.row.2 g1 e) (fun e => by simp; omega)
  have k1 : Step (fun r => r = 0) τ (fun k => if k = g1 then 0 else τ k) (w.alloc (.cells #[.int .i32 (x : Int)] 138)) wp := Step.of_grown hg (fun k hk => h.row.2 k hk) hat2 rfl
  have hbp : b < wp.heap.size := Nat.lt_of_lt_of_le h1.lt hg.size
  have hgb : g1 ≠ b := fun e => by
    rcases hat with hat | hat
    · exact (h.rowge g1 hat).2 e
    · have := h.lt; omega
  have hg1 : B0 ≤ g1 := by
    rcases hat with hat | hat
    · exact (h.rowge g1 hat).1
    · omega
  have rb : (fun k => if k = g1 then 0 else τ k) b = 0 := by show (if b = g1 then 0 else τ b) = 0; rw [if_neg (fun e => hgb e.symm)]; exact h.role
  have k2 : Step (fun r => r = 0) (fun k => if k = g1 then 0 else τ k) (fun k => if k = g1 then 0 else τ k) wp (wp.setCell ⟨b, 0, none⟩ (.slice (some ⟨g1, 0, none⟩) (ls.length + 1) c)) := Step.set _ _ rb
  have eb : wp.heap[b]? = (w.alloc (.cells #[.int .i32 (x : Int)] 138)).heap[b]? := hg.block b h1.lt (fun e => (h.rowge b e.symm).2 rfl)
  have hcb : wp.cell? ⟨b, 0, none⟩ = some (.slice A ls.length cap) := (World.cell?_of_block (a := ⟨b, 0, none⟩) eb).trans h1.at_
  have hfb : wp.frozen? ⟨b, 0, none⟩ = false := (frozen_block (a := ⟨b, 0, none⟩) eb).trans h1.free
  refine ⟨⟨hcb, hfb⟩, (fun k => if k = g1 then 0 else τ k), some ⟨g1, 0, none⟩, c, ?_, ?_, ?_⟩
  · obtain ⟨pcs, s⟩ := s.below b1
    exact ⟨pcs, (s.step k1 (fun r hr e => by omega)).step k2 (fun r hr e => by omega)⟩
  · refine ⟨rb, h.ge, ?_, ?_, ?_, ?_⟩
    · rw [List.length_append]; exact World.cell?_setCell_same' _ _ _ (by rw [hcb]; rfl)
    · rw [World.frozen?_setCell]; exact hfb
    · have e1 : n32 (ls ++ [x]) = n32 ls ++ [.int .i32 (x : Int)] := by simp [n32]
      rw [e1, List.length_append]
      exact ⟨own_other hown hgb, fun g hg2 => by
        have : g1 = g := by simpa [Value.ownBlock] using hg2
        subst this; exact if_pos rfl⟩
    · intro g hg2
      have : g1 = g := by simpa [Value.ownBlock] using hg2
      subst this; exact ⟨hg1, hgb⟩
  · refine ⟨?_, ?_, ?_, ?_, fun k hk h0 hB3 => ?_, fun k hk h0 => ?_⟩
    · exact (k1.trans k2).kept.os.trans b1.os
    · exact (k1.trans k2).kept.tape.trans b1.tape
    · exact (k1.trans k2).kept.output.trans b1.output
    · exact Nat.le_trans b1.size (k1.trans k2).kept.size
    · have hk1 : k < (w.alloc (.cells #[.int .i32 (x : Int)] 138)).heap.size := Nat.lt_of_lt_of_le hk b1.size
      have e1 := hg.block k hk1 (fun e => by have := (h.rowge k e.symm).1; omega)
      exact (set_other (p := ⟨b, 0, none⟩) (fun e => by have := h.ge; have e : k = b := e; omega)).trans (e1.trans (alloc_other hk))
    · show (if k = g1 then 0 else τ k) = 0
      split
      · rfl
      · exact h0
/-- A claim is found again where it was, if nobody wrote there. -/
theorem Cla.again {m k : Nat} {c : Cl} {d' : Sd} {ga capa gl capl : Nat} (a : Cla τ w p m k c ga capa gl capl) (R : Sr B τ' w' p n d') (hk : d'.cls[k]? = some c) (hl : 0 < c.ls.length) (hm : d'.cls.length = m) (hp : w'.cell? ⟨p, 0, none⟩ = w.cell? ⟨p, 0, none⟩) (hg : w'.heap[ga]? = w.heap[ga]?) : Cla τ' w' p m k c ga capa gl capl := by
  obtain ⟨ga', capa', gl', capl', a'⟩ := R.claim hk hl
  rw [hm] at a'
  have e1 := a'.head
  rw [hp, a.head] at e1
  injection e1 with e1; injection e1 with e1 _ e2; injection e1 with e1; injection e1 with e1
  subst e1; subst e2
  have e3 := a'.lit
  rw [World.cell?_of_block (a := ⟨ga, k * 3, none⟩) hg, a.lit] at e3
  injection e3 with e3; injection e3 with e3 _ e4; injection e3 with e3; injection e3 with e3
  subst e3; subst e4
  exact a'
end
end Go.Proofs.YtpmdnbdmocdngaaGreat

namespace Go.Proofs.YtpmdnbdmocdngaaGreat
open Go.ChangeShapes Go.WideShapes Go.ChangeAt Go.RowKit
set_option linter.unusedVariables false
set_option linter.unusedSimpArgs false

/-- What is noted. -/
structure Nt where
  se : List Bool
  nu : List Nat
  ls : List Nat
  last : Nat
/-- One literal noted. -/
def Nt.one (dp : List Nat) (M : Nat) (s : Nt) (x : Nat) : Nt :=
  if s.se.getD (x / 2) false = true ∨ dpt dp x = 0 then s else
  { se := s.se.set (x / 2) true, nu := s.nu ++ [x / 2], ls := if dpt dp x = M then s.ls else s.ls ++ [x], last := if dpt dp x = M then s.last + 1 else s.last }
def Nt.all (dp : List Nat) (M : Nat) (s : Nt) (xs : List Nat) : Nt := xs.foldl (Nt.one dp M) s
theorem Nt.all_snoc (dp : List Nat) (M : Nat) (s : Nt) (xs : List Nat) (x : Nat) : Nt.all dp M s (xs ++ [x]) = Nt.one dp M (Nt.all dp M s xs) x := by simp [Nt.all]
theorem Nt.one_len (dp : List Nat) (M : Nat) (s : Nt) (x : Nat) : (Nt.one dp M s x).se.length = s.se.length ∧ (Nt.one dp M s x).nu.length ≤ s.nu.length + 1 ∧ (Nt.one dp M s x).ls.length ≤ s.ls.length + 1 ∧ (Nt.one dp M s x).last ≤ s.last + 1 := by
  unfold Nt.one
  split
  · exact ⟨rfl, by omega, by omega, by omega⟩
  · refine ⟨by simp, by simp, ?_, ?_⟩
    · show (if dpt dp x = M then s.ls else s.ls ++ [x]).length ≤ _
      split
      · omega
      · simp
    · show (if dpt dp x = M then s.last + 1 else s.last) ≤ _
      split <;> omega
/-- The search with what is noted. -/
def Sd.noted (d : Sd) (s : Nt) : Sd := { d with se := s.se, nu := s.nu }
def NoPost (B B0 : Nat) (τ : Nat → Nat) (w : World) (p n : Nat) (d : Sd) (b : Nat) (s : Nt) (e : Ending) (w' : World) : Prop :=
  e = .returned (.int .i64 (s.last : Int)) ∧ ∃ τ' A cap, Sr B τ' w' p n (d.noted s) ∧ Bx B0 τ' w' b A cap s.ls ∧ Stq B0 τ τ' w w' ∧ ∀ j, j ≠ 14 → w'.cell? ⟨p, j, none⟩ = w.cell? ⟨p, j, none⟩
/-- What a round of note finds. -/
structure NoRel (B B0 : Nat) (τ : Nat → Nat) (w : World) (p n : Nat) (d : Sd) (b k ga capa gl capl : Nat) (c : Cl) (s : Nt) (m : Nat) (wr : World) : Prop where
  ex : ∃ τ' A cap, Sr B τ' wr p n (d.noted s) ∧ Bx B0 τ' wr b A cap s.ls ∧ Stq B0 τ τ' w wr ∧ Cla τ' wr p m k c ga capa gl capl
  hd : ∀ j, j ≠ 14 → wr.cell? ⟨p, j, none⟩ = w.cell? ⟨p, j, none⟩
theorem Sr.nu_role {B : Nat} {τ : Nat → Nat} {w : World} {p n : Nat} {d : Sd} (h : Sr B τ w p n d) {v : Value} (hc : w.cell? ⟨p, 14, none⟩ = some v) : (∀ g, v.ownBlock = some g → τ g = 16) ∧ τ p = 1 := by
  obtain ⟨pcs, h⟩ := h
  refine ⟨?_, h.blk.2⟩
  obtain ⟨u, hu, hr⟩ := h.row 14 rfl
  have e : v = u := by rw [h.blk.cell, hu] at hc; injection hc with hc; exact hc.symm
  subst e
  intro g hg
  rcases hr.at with ⟨h0, h1⟩ | ⟨g', cap, cur, h0, hb, h1, h2, h3, h4⟩
  · rw [h0] at hg; cases hg
  · rw [h0] at hg
    have : g' = g := by simpa [Value.ownBlock] using hg
    subst this; exact hb.2
section
variable {B B0 : Nat} {τ : Nat → Nat} {w : World} {p n : Nat} {d : Sd} {b cap m k ga capa gl capl : Nat} {A : Option Addr} {ls : List Nat} {c : Cl}
theorem No.seen (R : Sr B τ w p n d) (X : Bx B0 τ w b A cap ls) (C : Cla τ w p m k c ga capa gl capl) (hk : d.cls[k]? = some c) (hl : 0 < c.ls.length) (hm : d.cls.length = m) {g cap' i : Nat} (ha : At τ w p 13 4 (d.se.map Value.bool) g cap') (hi : i < d.se.length) (x : Bool) :
    Sr B τ (w.setCell ⟨g, i, none⟩ (.bool x)) p n { d with se := d.se.set i x } ∧ Bx B0 τ (w.setCell ⟨g, i, none⟩ (.bool x)) b A cap ls ∧ Stp τ τ w (w.setCell ⟨g, i, none⟩ (.bool x)) ∧ Cla τ (w.setCell ⟨g, i, none⟩ (.bool x)) p m k c ga capa gl capl ∧ ∀ j, j ≠ 14 → (w.setCell ⟨g, i, none⟩ (.bool x)).cell? ⟨p, j, none⟩ = w.cell? ⟨p, j, none⟩ := by
  obtain ⟨h1, h2⟩ := R.put_se ha hi x
  have hga : ga ≠ g := fun e => by have h1 := C.arole; have h2 := ha.role; rw [e, h2] at h1; omega
  exact ⟨h1, X.step h2, h2, C.again h1 hk hl hm (World.cell?_of_block (set_other (p := ⟨g, i, none⟩) ha.ne.symm)) (set_other (p := ⟨g, i, none⟩) hga), fun j _ => World.cell?_of_block (a := ⟨p, j, none⟩) (set_other (p := ⟨g, i, none⟩) ha.ne.symm)⟩
theorem No.numb (R : Sr B τ w p n d) (X : Bx B0 τ w b A cap ls) (C : Cla τ w p m k c ga capa gl capl) (hk : d.cls[k]? = some c) (hl : 0 < c.ls.length) (hm : d.cls.length = m) (x : Nat) {AN : Option Addr} {c0 : Nat} (hc : w.cell? ⟨p, 14, none⟩ = some (.slice AN d.nu.length c0)) : ∀ (wp : World) (c1 g1 : Nat), (w.alloc (.cells #[.int .i32 (x : Int)] 21)).grownBy wp (Value.slice AN d.nu.length c0).ownBlock → wp.ownsRow 0 21 1 (.slice (some ⟨g1, 0, none⟩) (d.nu.length + 1) c1) (d.nu.length + 1) ((n32 d.nu) ++ [.int .i32 (x : Int)]) → ((Value.slice AN d.nu.length c0).ownBlock = some g1 ∨ g1 = w.heap.size + 1) →
    (wp.cell? ⟨p, 14, none⟩ = some (.slice AN d.nu.length c0) ∧ wp.frozen? ⟨p, 14, none⟩ = false) ∧ ∃ τ', Sr B τ' (wp.setCell ⟨p, 14, none⟩ (.slice (some ⟨g1, 0, none⟩) (d.nu.length + 1) c1)) p n { d with nu := d.nu ++ [x] } ∧ Bx B0 τ' (wp.setCell ⟨p, 14, none⟩ (.slice (some ⟨g1, 0, none⟩) (d.nu.length + 1) c1)) b A cap ls ∧ Stp τ τ' w (wp.setCell ⟨p, 14, none⟩ (.slice (some ⟨g1, 0, none⟩) (d.nu.length + 1) c1)) ∧ Cla τ' (wp.setCell ⟨p, 14, none⟩ (.slice (some ⟨g1, 0, none⟩) (d.nu.length + 1) c1)) p m k c ga capa gl capl ∧ ∀ j, j ≠ 14 → (wp.setCell ⟨p, 14, none⟩ (.slice (some ⟨g1, 0, none⟩) (d.nu.length + 1) c1)).cell? ⟨p, j, none⟩ = w.cell? ⟨p, j, none⟩ := fun wp c1 g1 hg hown hat => by
  obtain ⟨h0, τ', h1, h2⟩ := R.fin_nu x hc wp c1 g1 hg hown hat
  obtain ⟨r1, r2⟩ := R.nu_role hc
  have hpg : p ≠ ga := fun e => by have h1 := C.arole; rw [← e, r2] at h1; omega
  have zp := R.plt
  have za := C.alt
  have bp : wp.heap[p]? = w.heap[p]? := (hg.block p (by simp; omega) (fun e => by have := r1 p e.symm; omega)).trans (alloc_other zp)
  have ba : wp.heap[ga]? = w.heap[ga]? := (hg.block ga (by simp; omega) (fun e => by have := r1 ga e.symm; have := C.arole; omega)).trans (alloc_other za)
  exact ⟨h0, τ', h1, X.step h2, h2, C.again h1 hk hl hm ((World.cell?_setCell_other wp ⟨p, 14, none⟩ ⟨p, 0, none⟩ _ (by intro e; injection e with _ e; cases e)).trans (World.cell?_of_block (a := ⟨p, 0, none⟩) bp)) ((set_other (p := ⟨p, 14, none⟩) hpg.symm).trans ba), fun j hj => (World.cell?_setCell_other wp ⟨p, 14, none⟩ ⟨p, j, none⟩ _ (by intro e; injection e with _ e; exact hj e.symm)).trans (World.cell?_of_block (a := ⟨p, j, none⟩) bp)⟩
theorem No.lits (R : Sr B τ w p n d) (X : Bx B0 τ w b A cap ls) (C : Cla τ w p m k c ga capa gl capl) (hk : d.cls[k]? = some c) (hl : 0 < c.ls.length) (hm : d.cls.length = m) (hB : B ≤ B0) (hB2 : B0 ≤ w.heap.size) (x : Nat) : ∀ (wp : World) (c1 g1 : Nat), (w.alloc (.cells #[.int .i32 (x : Int)] 138)).grownBy wp (Value.slice A ls.length cap).ownBlock → wp.ownsRow 0 138 1 (.slice (some ⟨g1, 0, none⟩) (ls.length + 1) c1) (ls.length + 1) ((n32 ls) ++ [.int .i32 (x : Int)]) → ((Value.slice A ls.length cap).ownBlock = some g1 ∨ g1 = w.heap.size + 1) →
    (wp.cell? ⟨b, 0, none⟩ = some (.slice A ls.length cap) ∧ wp.frozen? ⟨b, 0, none⟩ = false) ∧ ∃ τ' A' c', Sr B τ' (wp.setCell ⟨b, 0, none⟩ (.slice (some ⟨g1, 0, none⟩) (ls.length + 1) c1)) p n d ∧ Bx B0 τ' (wp.setCell ⟨b, 0, none⟩ (.slice (some ⟨g1, 0, none⟩) (ls.length + 1) c1)) b A' c' (ls ++ [x]) ∧ Stq B0 τ τ' w (wp.setCell ⟨b, 0, none⟩ (.slice (some ⟨g1, 0, none⟩) (ls.length + 1) c1)) ∧ Cla τ' (wp.setCell ⟨b, 0, none⟩ (.slice (some ⟨g1, 0, none⟩) (ls.length + 1) c1)) p m k c ga capa gl capl ∧ ∀ j, j ≠ 14 → (wp.setCell ⟨b, 0, none⟩ (.slice (some ⟨g1, 0, none⟩) (ls.length + 1) c1)).cell? ⟨p, j, none⟩ = w.cell? ⟨p, j, none⟩ := fun wp c1 g1 hg hown hat => by
  obtain ⟨h0, τ', A', c', h1, h2, h3⟩ := X.fin R hB hB2 x wp c1 g1 hg hown hat
  have zp := R.plt
  have za := C.alt
  have rp := C.prole
  have ra := C.arole
  have rb := X.role
  have hpb : p ≠ b := fun e => by rw [e, rb] at rp; omega
  have hab : ga ≠ b := fun e => by rw [e, rb] at ra; omega
  have bp : wp.heap[p]? = w.heap[p]? := (hg.block p (by simp; omega) (fun e => by have := X.row.2 p e.symm; omega)).trans (alloc_other zp)
  have ba : wp.heap[ga]? = w.heap[ga]? := (hg.block ga (by simp; omega) (fun e => by have := X.row.2 ga e.symm; omega)).trans (alloc_other za)
  exact ⟨h0, τ', A', c', h1, h2, h3, C.again h1 hk hl hm ((World.cell?_of_block (a := ⟨p, 0, none⟩) (set_other (p := ⟨b, 0, none⟩) hpb)).trans (World.cell?_of_block (a := ⟨p, 0, none⟩) bp)) ((set_other (p := ⟨b, 0, none⟩) hab).trans ba), fun j _ => (World.cell?_of_block (a := ⟨p, j, none⟩) (set_other (p := ⟨b, 0, none⟩) hpb)).trans (World.cell?_of_block (a := ⟨p, j, none⟩) bp)⟩
end
end Go.Proofs.YtpmdnbdmocdngaaGreat
