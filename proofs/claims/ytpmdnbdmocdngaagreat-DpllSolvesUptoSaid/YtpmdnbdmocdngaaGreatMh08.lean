/-
  Parts of the proof, joined: DpllH, DpllQ, DpllQ2.
-/
import Derived.Test.YtpmdnbdmocdngaaGreatMh06
import Derived.Test.YtpmdnbdmocdngaaGreatMh07
import Derived.Deep.RegionHeld3
import Derived.BigRegion

namespace Go.Proofs.YtpmdnbdmocdngaaGreat
open Go.RowKit
set_option linter.unusedVariables false
set_option linter.unusedSimpArgs false

structure QOk (n : Nat) (hp : List Nat) (pl : List Int) : Prop where
  len : pl.length = n
  at_ : ∀ (j u : Nat), hp[j]? = some u → u < n ∧ pl[u]? = some (j : Int)
  out : ∀ u, u < n → u ∉ hp → pl[u]? = some (-1)
/-- What lies in the heap once v stands at i. -/
def Wh (hp : List Nat) (i v u : Nat) : Prop := u = v ∨ ∃ j, j ≠ i ∧ hp[j]? = some u
structure QH (n : Nat) (hp : List Nat) (pl : List Int) (i v : Nat) : Prop where
  len : pl.length = n
  il : i < hp.length
  vn : v < n
  at_ : ∀ (j u : Nat), j ≠ i → hp[j]? = some u → u < n ∧ pl[u]? = some (j : Int) ∧ u ≠ v
  out : ∀ u, u < n → u ≠ v → (∀ j, j ≠ i → hp[j]? ≠ some u) → pl[u]? = some (-1)
theorem nodup_le : ∀ (n : Nat) (l : List Nat), l.Nodup → (∀ z ∈ l, z < n) → l.length ≤ n
  | 0, l, _, h => by
    cases l with
    | nil => exact Nat.le_refl _
    | cons a r => have := h a (List.mem_cons_self ..); omega
  | n + 1, l, hd, h => by
    have k := nodup_le n (l.erase n) (hd.erase _) fun z hz => by
      obtain ⟨h1, h2⟩ := (hd.mem_erase_iff).1 hz
      have := h z h2
      omega
    have := List.length_erase (a := n) (l := l)
    split at this <;> omega
theorem QOk.nodup {n : Nat} {hp : List Nat} {pl : List Int} (h : QOk n hp pl) : hp.Nodup := by
  refine List.pairwise_iff_getElem.2 fun i j hi hj hij he => ?_
  have h1 := (h.at_ i _ (List.getElem?_eq_getElem hi)).2
  have h2 := (h.at_ j _ (List.getElem?_eq_getElem hj)).2
  rw [he, h2] at h1
  injection h1 with h1
  omega
theorem QOk.le {n : Nat} {hp : List Nat} {pl : List Int} (h : QOk n hp pl) : hp.length ≤ n := nodup_le n hp h.nodup fun z hz => by
  obtain ⟨j, hj⟩ := List.getElem?_of_mem hz
  exact (h.at_ j z hj).1
section
variable {n : Nat} {hp : List Nat} {pl : List Int} {i v : Nat}
theorem QH.fill (h : QH n hp pl i v) : QOk n (hp.set i v) (pl.set v (i : Int)) ∧ ∀ u, u ∈ hp.set i v ↔ Wh hp i v u := by
  have hv : v < pl.length := by rw [h.len]; exact h.vn
  refine ⟨⟨by rw [List.length_set]; exact h.len, fun j u hj => ?_, fun u hu hn => ?_⟩, fun u => ?_⟩
  · by_cases e : j = i
    · subst e
      rw [List.getElem?_set_self h.il] at hj
      injection hj with hj; subst hj
      exact ⟨h.vn, List.getElem?_set_self hv⟩
    · rw [List.getElem?_set_ne (fun k => e k.symm)] at hj
      obtain ⟨a, b, c⟩ := h.at_ j u e hj
      exact ⟨a, by rw [List.getElem?_set_ne (fun k => c k.symm)]; exact b⟩
  · have hne : u ≠ v := fun e => hn (by subst e; exact List.mem_set h.il u)
    rw [List.getElem?_set_ne (fun k => hne k.symm)]
    refine h.out u hu hne fun j hj hc => hn ?_
    exact List.mem_of_getElem? (i := j) (by rw [List.getElem?_set_ne (fun k => hj k.symm)]; exact hc)
  · constructor
    · intro hu
      obtain ⟨j, hj⟩ := List.getElem?_of_mem hu
      by_cases e : j = i
      · subst e
        rw [List.getElem?_set_self h.il] at hj
        injection hj with hj; exact .inl hj.symm
      · rw [List.getElem?_set_ne (fun k => e k.symm)] at hj
        exact .inr ⟨j, e, hj⟩
    · rintro (rfl | ⟨j, e, hj⟩)
      · exact List.mem_set h.il u
      · exact List.mem_of_getElem? (i := j) (by rw [List.getElem?_set_ne (fun k => e k.symm)]; exact hj)
theorem QH.move (h : QH n hp pl i v) {k u0 : Nat} (hk : hp[k]? = some u0) (hki : k ≠ i) : QH n (hp.set i u0) (pl.set u0 (i : Int)) k v ∧ ∀ u, Wh (hp.set i u0) k v u ↔ Wh hp i v u := by
  obtain ⟨hu0, hp0, hv0⟩ := h.at_ k u0 hki hk
  have hkl := (List.getElem?_eq_some_iff.1 hk).1
  have hul : u0 < pl.length := by rw [h.len]; exact hu0
  refine ⟨⟨by rw [List.length_set]; exact h.len, by rw [List.length_set]; exact hkl, h.vn, fun j u hj hu => ?_, fun u hu hne hn => ?_⟩, fun u => ?_⟩
  · by_cases e : j = i
    · subst e
      rw [List.getElem?_set_self h.il] at hu
      injection hu with hu; subst hu
      exact ⟨hu0, List.getElem?_set_self hul, hv0⟩
    · rw [List.getElem?_set_ne (fun k => e k.symm)] at hu
      obtain ⟨a, b, c⟩ := h.at_ j u e hu
      have hne : u0 ≠ u := fun e2 => by subst e2; rw [hp0] at b; injection b with b; omega
      exact ⟨a, by rw [List.getElem?_set_ne hne]; exact b, c⟩
  · have hne0 : u0 ≠ u := fun e => hn i (fun e2 => hki e2.symm) (by rw [List.getElem?_set_self h.il, e])
    rw [List.getElem?_set_ne hne0]
    refine h.out u hu hne fun j hj hc => ?_
    by_cases e : j = k
    · subst e; rw [hk] at hc; injection hc with hc; exact hne0 hc
    · exact hn j e (by rw [List.getElem?_set_ne (fun k => hj k.symm)]; exact hc)
  · constructor
    · rintro (rfl | ⟨j, hj, hu⟩)
      · exact .inl rfl
      · by_cases e : j = i
        · subst e
          rw [List.getElem?_set_self h.il] at hu
          injection hu with hu; subst hu
          exact .inr ⟨k, hki, hk⟩
        · rw [List.getElem?_set_ne (fun k => e k.symm)] at hu
          exact .inr ⟨j, e, hu⟩
    · rintro (rfl | ⟨j, hj, hu⟩)
      · exact .inl rfl
      · by_cases e : j = k
        · subst e
          rw [hk] at hu; injection hu with hu; subst hu
          exact .inr ⟨i, fun e => hki e.symm, List.getElem?_set_self h.il⟩
        · exact .inr ⟨j, e, by rw [List.getElem?_set_ne (fun k => hj k.symm)]; exact hu⟩
/-- What stands there already, taken out and put back. -/
theorem QOk.hole (h : QOk n hp pl) (hi : hp[i]? = some v) : QH n hp pl i v ∧ ∀ u, Wh hp i v u ↔ u ∈ hp := by
  refine ⟨⟨h.len, (List.getElem?_eq_some_iff.1 hi).1, (h.at_ i v hi).1, fun j u hj hu => ?_, fun u hu hne hn => ?_⟩, fun u => ?_⟩
  · obtain ⟨a, b⟩ := h.at_ j u hu
    refine ⟨a, b, fun e => ?_⟩
    subst e
    rw [(h.at_ i u hi).2] at b; injection b with b; omega
  · refine h.out u hu fun hm => ?_
    obtain ⟨j, hj⟩ := List.getElem?_of_mem hm
    by_cases e : j = i
    · subst e; rw [hi] at hj; injection hj with hj; exact hne hj.symm
    · exact hn j e hj
  · constructor
    · rintro (rfl | ⟨j, _, hj⟩)
      · exact List.mem_of_getElem? hi
      · exact List.mem_of_getElem? hj
    · intro hu
      obtain ⟨j, hj⟩ := List.getElem?_of_mem hu
      by_cases e : j = i
      · subst e; rw [hi] at hj; injection hj with hj; exact .inl hj.symm
      · exact .inr ⟨j, e, hj⟩
/-- One more, at the end. -/
theorem QOk.last (h : QOk n hp pl) (hv : v < n) (hn : v ∉ hp) : QH n (hp ++ [v]) pl hp.length v ∧ (∀ u, Wh (hp ++ [v]) hp.length v u ↔ u = v ∨ u ∈ hp) ∧ hp.length < n := by
  have hl : (v :: hp).length ≤ n := nodup_le n (v :: hp) (List.nodup_cons.2 ⟨hn, h.nodup⟩) fun z hz => by
    rcases List.mem_cons.1 hz with rfl | hz
    · exact hv
    · obtain ⟨j, hj⟩ := List.getElem?_of_mem hz
      exact (h.at_ j z hj).1
  have key : ∀ (j u : Nat), j ≠ hp.length → (hp ++ [v])[j]? = some u → hp[j]? = some u := fun j u hj hu => by
    by_cases e : j < hp.length
    · rwa [List.getElem?_append_left e] at hu
    · have := (List.getElem?_eq_some_iff.1 hu).1; simp at this; omega
  refine ⟨⟨h.len, by simp, hv, fun j u hj hu => ?_, fun u hu hne hnn => ?_⟩, fun u => ?_, by simp at hl; omega⟩
  · have := key j u hj hu
    obtain ⟨a, b⟩ := h.at_ j u this
    exact ⟨a, b, fun e => hn (e ▸ List.mem_of_getElem? this)⟩
  · refine h.out u hu fun hm => ?_
    obtain ⟨j, hj⟩ := List.getElem?_of_mem hm
    have := (List.getElem?_eq_some_iff.1 hj).1
    exact hnn j (by omega) (by rw [List.getElem?_append_left this]; exact hj)
  · constructor
    · rintro (rfl | ⟨j, hj, hu⟩)
      · exact .inl rfl
      · exact .inr (List.mem_of_getElem? (key j u hj hu))
    · rintro (rfl | hm)
      · exact .inl rfl
      · obtain ⟨j, hj⟩ := List.getElem?_of_mem hm
        have := (List.getElem?_eq_some_iff.1 hj).1
        exact .inr ⟨j, by omega, by rw [List.getElem?_append_left this]; exact hj⟩
/-- The first one taken, the last one in its place. -/
theorem QOk.first (h : QOk n hp pl) {m l : Nat} (hm : hp.length = m + 1) (hv : hp[0]? = some v) (hl : hp[m]? = some l) :
    (0 < m → QH n (hp.take m) (pl.set v (-1)) 0 l ∧ ∀ u, Wh (hp.take m) 0 l u ↔ u ∈ hp ∧ u ≠ v) ∧ (m = 0 → QOk n (hp.take m) (pl.set v (-1)) ∧ ∀ u, u ∈ hp.take m ↔ u ∈ hp ∧ u ≠ v) := by
  have hvn := h.at_ 0 v hv
  have hln := h.at_ m l hl
  have hvl : v < pl.length := by rw [h.len]; exact hvn.1
  constructor
  · intro h0
    have hlv : l ≠ v := fun e => by subst e; rw [hvn.2] at hln; have := hln.2; injection this with this; omega
    have key : ∀ (j u : Nat), (hp.take m)[j]? = some u → j < m ∧ hp[j]? = some u := fun j u hj => by
      have := (List.getElem?_eq_some_iff.1 hj).1
      rw [List.length_take] at this
      rw [List.getElem?_take_of_lt (by omega)] at hj
      exact ⟨by omega, hj⟩
    refine ⟨⟨by rw [List.length_set]; exact h.len, by rw [List.length_take]; omega, hln.1, fun j u hj hu => ?_, fun u hu hne hn => ?_⟩, fun u => ?_⟩
    · obtain ⟨hjm, hu⟩ := key j u hu
      obtain ⟨a, b⟩ := h.at_ j u hu
      have h1 : v ≠ u := fun e => by subst e; rw [hvn.2] at b; injection b with b; omega
      have h2 : u ≠ l := fun e => by subst e; rw [hln.2] at b; injection b with b; omega
      exact ⟨a, by rw [List.getElem?_set_ne h1]; exact b, h2⟩
    · by_cases e : v = u
      · subst e; exact List.getElem?_set_self hvl
      · rw [List.getElem?_set_ne e]
        refine h.out u hu fun hmem => ?_
        obtain ⟨j, hj⟩ := List.getElem?_of_mem hmem
        have hjl := (List.getElem?_eq_some_iff.1 hj).1
        by_cases e1 : j = 0
        · subst e1; rw [hv] at hj; injection hj with hj; exact e hj
        · by_cases e2 : j = m
          · subst e2; rw [hl] at hj; injection hj with hj; exact hne hj.symm
          · exact hn j e1 (by rw [List.getElem?_take_of_lt (by omega)]; exact hj)
    · constructor
      · rintro (rfl | ⟨j, hj, hu⟩)
        · exact ⟨List.mem_of_getElem? hl, hlv⟩
        · obtain ⟨hjm, hu⟩ := key j u hu
          refine ⟨List.mem_of_getElem? hu, fun e => ?_⟩
          subst e
          have := (h.at_ j u hu).2
          rw [hvn.2] at this; injection this with this; omega
      · rintro ⟨hmem, hne⟩
        obtain ⟨j, hj⟩ := List.getElem?_of_mem hmem
        have hjl := (List.getElem?_eq_some_iff.1 hj).1
        by_cases e1 : j = 0
        · subst e1; rw [hv] at hj; injection hj with hj; exact absurd hj.symm hne
        · by_cases e2 : j = m
          · subst e2; rw [hl] at hj; injection hj with hj; exact .inl hj.symm
          · exact .inr ⟨j, e1, by rw [List.getElem?_take_of_lt (by omega)]; exact hj⟩
  · intro h0
    subst h0
    have hx : ∀ u, u ∈ hp → u = v := fun u hm2 => by
      obtain ⟨j, hj⟩ := List.getElem?_of_mem hm2
      have hjl := (List.getElem?_eq_some_iff.1 hj).1
      obtain rfl : j = 0 := by omega
      rw [hv] at hj; injection hj with hj; exact hj.symm
    refine ⟨⟨by rw [List.length_set]; exact h.len, fun j u hj => by simp at hj, fun u hu _ => ?_⟩, fun u => ?_⟩
    · by_cases e : v = u
      · subst e; exact List.getElem?_set_self hvl
      · rw [List.getElem?_set_ne e]
        exact h.out u hu fun hm2 => e (hx u hm2).symm
    · simp only [List.take_zero, List.not_mem_nil, false_iff]
      rintro ⟨a, b⟩
      exact b (hx u a)
end
end Go.Proofs.YtpmdnbdmocdngaaGreat

namespace Go.Proofs.YtpmdnbdmocdngaaGreat
open Go.ChangeShapes Go.WideShapes Go.ChangeAt Go.RowKit
set_option linter.unusedVariables false
set_option linter.unusedSimpArgs false

abbrev Rq (r : Nat) : Prop := r = 11 ∨ r = 12
theorem Step.alike {R : Nat → Prop} {τ τ' : Nat → Nat} {w w' W : World} (h : Step R τ τ' w w') (he : W.heap = w'.heap) (h1 : W.os = w'.os) (h2 : W.tape = w'.tape) (h3 : W.output = w'.output) : Step R τ τ' w W :=
  h.trans (Step.of_below R τ' ⟨h1, h2, h3, by rw [he]; exact Nat.le_refl _, fun k _ => by rw [he]⟩)
abbrev qp (p : Nat) : Value := .pointer (some ⟨p, 9, none⟩)
section
variable {B : Nat} {τ : Nat → Nat} {w : World} {p n : Nat} {d : Sd}
set_option maxHeartbeats 800000 in
theorem qput_any (h : Sr B τ w p n d) (i v : Nat) (hi : i < d.hp.length) (hv : v < d.pl.length) (hib : i < 2147483648) (hvb : v < 2147483648) :
    Calls Tryz.prog 169 #[qp p, .int .i64 (i : Int), .int .i32 (v : Int)] w fun e w' => e = .returned (.tuple #[]) ∧ Sr B τ w' p n { d with hp := d.hp.set i v, pl := d.pl.set v (i : Int) } ∧ Step Rq τ τ w w' := by
  obtain ⟨g1, c1, a1⟩ := h.at_hp (by omega)
  obtain ⟨g2, c2, a2⟩ := h.at_pl (by omega)
  have hne := a1.apart a2 (by decide)
  have h1 := h.put_hp a1 hi v
  have h2 := h1.1.put_pl (a2.other a1.ne.symm hne.symm) hv (i : Int)
  have h3 := h.put_pl a2 hv (i : Int)
  have h4 := h3.1.put_hp (a1.other a2.ne.symm hne) hi v
  have HA : Hid (_ ∧ Step Rq τ τ w ((w.setCell ⟨g1, i, none⟩ (.int .i32 (v : Int))).setCell ⟨g2, v, none⟩ (.int .i32 (i : Int)))) := ⟨h2.1, (Step.set _ _ (.inl a1.role)).trans (Step.set _ _ (.inr a2.role))⟩
  have HB : Hid (_ ∧ Step Rq τ τ w ((w.setCell ⟨g2, v, none⟩ (.int .i32 (i : Int))).setCell ⟨g1, i, none⟩ (.int .i32 (v : Int)))) := ⟨h4.1, (Step.set _ _ (.inr a2.role)).trans (Step.set _ _ (.inl a1.role))⟩
  have f9 := a1.len_hp.1
  have f10 := a2.len_pl.1
  have l9 := a1.len_hp.2
  have l10 := a2.len_pl.2
  have k9 := a1.cap
  have k10 := a2.cap
  obtain ⟨y1, hy1⟩ : ∃ y, d.hp[i]? = some y := ⟨_, List.getElem?_eq_getElem hi⟩
  obtain ⟨y2, hy2⟩ : ∃ y, d.pl[v]? = some y := ⟨_, List.getElem?_eq_getElem hv⟩
  have x1 := a1.hp hy1
  have x2 := a2.pl hy2
  have r1 := a1.free
  have r2 := a2.free
  have z1 := a1.lt
  have z2 := a2.lt
  have zp := h.plt
  have n1 := a1.ne
  have n2 := a2.ne
  have hw : IntKind.i32.wrap (i : Int) = (i : Int) := by rw [IntKind.wrap_i32]; omega
  clear h h1 h2 h3 h4 a1 a2 hy1 hy2
  have KA : ∀ (W : World) (o : Nat) (u : Value), (W.cell? ⟨p, 9, none⟩ = some (.slice (some ⟨g1, 0, none⟩) d.hp.length c1) ∧ W.cell? ⟨p, 10, none⟩ = some (.slice (some ⟨g2, 0, none⟩) d.pl.length c2)) → ((W.setCell ⟨g1, o, none⟩ u).cell? ⟨p, 9, none⟩ = some (.slice (some ⟨g1, 0, none⟩) d.hp.length c1) ∧ (W.setCell ⟨g1, o, none⟩ u).cell? ⟨p, 10, none⟩ = some (.slice (some ⟨g2, 0, none⟩) d.pl.length c2)) := fun W o u h => ⟨(World.cell?_of_block (set_other (p := ⟨g1, o, none⟩) n1.symm)).trans h.1, (World.cell?_of_block (set_other (p := ⟨g1, o, none⟩) n1.symm)).trans h.2⟩
  have KB : ∀ (W : World) (o : Nat) (u : Value), (W.cell? ⟨p, 9, none⟩ = some (.slice (some ⟨g1, 0, none⟩) d.hp.length c1) ∧ W.cell? ⟨p, 10, none⟩ = some (.slice (some ⟨g2, 0, none⟩) d.pl.length c2)) → ((W.setCell ⟨g2, o, none⟩ u).cell? ⟨p, 9, none⟩ = some (.slice (some ⟨g1, 0, none⟩) d.hp.length c1) ∧ (W.setCell ⟨g2, o, none⟩ u).cell? ⟨p, 10, none⟩ = some (.slice (some ⟨g2, 0, none⟩) d.pl.length c2)) := fun W o u h => ⟨(World.cell?_of_block (set_other (p := ⟨g2, o, none⟩) n2.symm)).trans h.1, (World.cell?_of_block (set_other (p := ⟨g2, o, none⟩) n2.symm)).trans h.2⟩
  generalize d.hp.length = hn at *
  generalize d.pl.length = pn at *
  go_enter Tryz.func169, Tryz.ntmps169
  go_wp2_with fail
  go_region_held3 (fun w' => w'.cell? ⟨p, 9, none⟩ = some (.slice (some ⟨g1, 0, none⟩) hn c1) ∧ w'.cell? ⟨p, 10, none⟩ = some (.slice (some ⟨g2, 0, none⟩) pn c2)) (first | go_keep | (exact KA _ _ _ (by assumption)) | (exact KB _ _ _ (by assumption)) | (exact KA _ _ _ ⟨by assumption, by assumption⟩) | (exact KB _ _ _ ⟨by assumption, by assumption⟩)) (fail)
  all_goals go_wp2_with fail
  all_goals go_end0
  all_goals exact ⟨rfl, HA.out.1.alike rfl rfl rfl rfl, HA.out.2.alike rfl rfl rfl rfl⟩
def AhPost (w : World) (e : Ending) (w' : World) : Prop := ∃ b : Bool, e = .returned (.bool b) ∧ Below w.heap.size w w'
set_option maxHeartbeats 800000 in
theorem qahead_any (h : Sr B τ w p n d) (v u : Nat) (hv : v < d.sc.length) (hu : u < d.sc.length) :
    Calls Tryz.prog 168 #[qp p, .int .i32 (v : Int), .int .i32 (u : Int)] w (AhPost w) := by
  obtain ⟨g, c, a⟩ := h.at_sc (by omega)
  obtain ⟨y1, hy1⟩ : ∃ y, d.sc[v]? = some y := ⟨_, List.getElem?_eq_getElem hv⟩
  obtain ⟨y2, hy2⟩ : ∃ y, d.sc[u]? = some y := ⟨_, List.getElem?_eq_getElem hu⟩
  have f11 := a.len_sc.1
  have l11 := a.len_sc.2
  have k11 := a.cap
  have x1 := a.sc hy1
  have x2 := a.sc hy2
  have z1 := a.lt
  have zp := h.plt
  clear h a hy1 hy2
  generalize d.sc.length = sn at *
  by_cases c1 : y2 < y1
  · go_enter Tryz.func168, Tryz.ntmps168
    go_wp2_with fail
    go_quiet (fail)
    go_wp2_with fail
    go_ret
    exact ⟨_, rfl, Below.draws (Below.refl _ _) _⟩
  by_cases c2 : y1 = y2
  · subst c2
    go_enter Tryz.func168, Tryz.ntmps168
    go_wp2_with fail
    go_quiet (fail)
    go_wp2_with fail
    go_ret
    exact ⟨_, rfl, Below.draws (Below.refl _ _) _⟩
  · have c3 : (y1 == y2) = false := beq_eq_false_iff_ne.2 c2
    go_enter Tryz.func168, Tryz.ntmps168
    go_wp2_with fail
    go_quiet (fail)
    go_wp2_with fail
    go_ret
    exact ⟨_, rfl, Below.draws (Below.refl _ _) _⟩
/-- The queue while a hole goes through its heap. -/
structure UpR (B : Nat) (τ : Nat → Nat) (w : World) (p n : Nat) (d : Sd) (i v : Nat) (wr : World) (i' : Nat) (hp' : List Nat) (pl' : List Int) : Prop where
  sr : Sr B τ wr p n { d with hp := hp', pl := pl' }
  st : Step Rq τ τ w wr
  qh : QH n hp' pl' i' v
  hl : hp'.length = d.hp.length
  wh : ∀ u, Wh hp' i' v u ↔ Wh d.hp i v u
def QDone (B : Nat) (τ : Nat → Nat) (w : World) (p n : Nat) (d : Sd) (S : Nat → Prop) (w' : World) : Prop :=
  ∃ hp' pl', Sr B τ w' p n { d with hp := hp', pl := pl' } ∧ Step Rq τ τ w w' ∧ QOk n hp' pl' ∧ hp'.length = d.hp.length ∧ ∀ u, u ∈ hp' ↔ S u
section
variable {i v i' : Nat} {hp' : List Nat} {pl' : List Int} {wr wk : World}
theorem UpR.start (h : Sr B τ w p n d) (hq : QH n d.hp d.pl i v) : UpR B τ w p n d i v w i d.hp d.pl := ⟨h, Step.refl _ _ _, hq, rfl, fun _ => Iff.rfl⟩
theorem UpR.below (R : UpR B τ w p n d i v wr i' hp' pl') (b : Below wr.heap.size wr wk) : UpR B τ w p n d i v wk i' hp' pl' := ⟨R.sr.below b, R.st.trans (Step.of_below _ _ b), R.qh, R.hl, R.wh⟩
theorem UpR.move (R : UpR B τ w p n d i v wr i' hp' pl') {k u0 : Nat} (hk : hp'[k]? = some u0) (hki : k ≠ i') (hs : Sr B τ wk p n { d with hp := hp'.set i' u0, pl := pl'.set u0 (i' : Int) }) (ht : Step Rq τ τ wr wk) : UpR B τ w p n d i v wk k (hp'.set i' u0) (pl'.set u0 (i' : Int)) := by
  obtain ⟨a, b⟩ := R.qh.move hk hki
  exact ⟨hs, R.st.trans ht, a, by rw [List.length_set]; exact R.hl, fun u => (b u).trans (R.wh u)⟩
theorem UpR.done (R : UpR B τ w p n d i v wr i' hp' pl') (hs : Sr B τ wk p n { d with hp := hp'.set i' v, pl := pl'.set v (i' : Int) }) (ht : Step Rq τ τ wr wk) : QDone B τ w p n d (Wh d.hp i v) wk := by
  obtain ⟨a, b⟩ := R.qh.fill
  exact ⟨_, _, hs, R.st.trans ht, a, by rw [List.length_set]; exact R.hl, fun u => (b u).trans (R.wh u)⟩
theorem UpR.put (R : UpR B τ w p n d i v wr i' hp' pl') (x : Nat) (hx : x < n) (hn : n ≤ 65536) (hl : d.hp.length ≤ n) :
    Calls Tryz.prog 169 #[qp p, .int .i64 (i' : Int), .int .i32 (x : Int)] wr fun e w' => e = .returned (.tuple #[]) ∧ Sr B τ w' p n { d with hp := hp'.set i' x, pl := pl'.set x (i' : Int) } ∧ Step Rq τ τ wr w' := by
  have h1 := R.qh.il
  have h2 := R.hl
  have h3 := R.qh.len
  exact qput_any (d := { d with hp := hp', pl := pl' }) R.sr i' x h1 (by show x < pl'.length; omega) (by omega) (by omega)
end
set_option maxHeartbeats 1600000 in
theorem qup_any (h : Sr B τ w p n d) {i v : Nat} (hq : QH n d.hp d.pl i v) (hn : n ≤ 65536) (hl : d.hp.length ≤ n) (hsc : d.sc.length = n) :
    Calls Tryz.prog 126 #[qp p, .int .i64 (i : Int), .int .i32 (v : Int)] w fun e w' => e = .returned (.tuple #[]) ∧ QDone B τ w p n d (Wh d.hp i v) w' := by
  have H0 := Lib.hid (UpR.start h hq)
  have hvn := hq.vn
  have hil := hq.il
  clear h hq
  go_enter Tryz.func126, Tryz.ntmps126
  go_wp2_with fail
  go_loopw [1] (fun iv wr => ∃ (i' : Nat) (hp' : List Nat) (pl' : List Int), iv = .int .i64 i' ∧ UpR B τ w p n d i v wr i' hp' pl') (fun iv _ => (intOf iv).toNat)
  case atStart => exact ⟨i, _, _, rfl, H0.out⟩
  case round =>
    obtain ⟨i', hp', pl', rfl, hrel⟩ := hrel
    have R := Lib.hid hrel
    have hil' := hrel.qh.il
    have hhl := hrel.hl
    have CF := Lib.hid (hrel.put v hvn hn hl)
    clear hrel
    by_cases h0 : ¬ 0 < i'
    · have hz : (i' : Int) ≤ 0 := by omega
      clear h0
      go_wp2_with fail
      (with_reducible refine CF.out.mono ?_)
      rintro e w1 ⟨rfl, hs, ht⟩
      have HD := Lib.hid (R.out.done hs ht)
      clear hs ht
      go_wp2_with fail
      go_end0
      exact ⟨rfl, HD.out⟩
    · have hz : (0 : Int) < (i' : Int) := by omega
      obtain ⟨k, hk⟩ : ∃ k : Nat, k = (i' - 1) / 2 := ⟨_, rfl⟩
      have hki : k ≠ i' := by omega
      have hkl : k < hp'.length := by omega
      have hkb : k < 65536 := by omega
      have hqd : ((i' : Int) - 1).tdiv 2 = (k : Int) := by rw [hk, Int.tdiv_eq_ediv_of_nonneg (by omega)]; omega
      have hw1 : IntKind.i64.wrap ((i' : Int) - 1) = (i' : Int) - 1 := IntWalk.i64_in _ (by omega)
      obtain ⟨u0, hu0⟩ : ∃ u, hp'[k]? = some u := ⟨_, List.getElem?_eq_getElem hkl⟩
      have hu0n := (R.out.qh.at_ k u0 hki hu0).1
      obtain ⟨g1, c1, a1⟩ := R.out.sr.at_hp (show 0 < hp'.length by omega)
      have f9 := a1.len_hp.1
      have l9 := a1.len_hp.2
      have k9 := a1.cap
      have z1 := a1.lt
      have zp := R.out.sr.plt
      have xk := a1.hp hu0
      have CA := Lib.hid (qahead_any R.out.sr v u0 (by show v < d.sc.length; omega) (by show u0 < d.sc.length; omega))
      have HU := Lib.hid hu0
      have HK := Lib.hid (show k < i' by omega)
      clear hk hu0
      go_wp2_with fail
      (with_reducible refine CA.out.mono ?_)
      rintro e w1 ⟨b, rfl, hb⟩
      have R := Lib.hid (R.out.below hb)
      have CF := Lib.hid (R.out.put v hvn hn hl)
      have CM := Lib.hid (R.out.put u0 hu0n hn hl)
      have f9' : w1.cell? ⟨p, 9, none⟩ = some (.slice (some ⟨g1, 0, none⟩) hp'.length c1) := (hb.cell zp).trans f9
      have xk' : w1.cell? ⟨g1, k, none⟩ = some (.int .i32 (u0 : Int)) := (hb.cell z1).trans xk
      have z1' : g1 < w1.heap.size := Nat.lt_of_lt_of_le z1 hb.size
      have zp' : p < w1.heap.size := Nat.lt_of_lt_of_le zp hb.size
      clear hb f9 xk CA
      cases b
      · go_wp2_with fail
        (with_reducible refine CF.out.mono ?_)
        rintro e w2 ⟨rfl, hs, ht⟩
        have HD := Lib.hid (R.out.done hs ht)
        clear hs ht
        go_wp2_with fail
        go_end0
        exact ⟨rfl, HD.out⟩
      · go_wp2_with fail
        (with_reducible refine CM.out.mono ?_)
        rintro e w2 ⟨rfl, hs, ht⟩
        have R2 := Lib.hid (R.out.move HU.out hki hs ht)
        clear hs ht
        go_wp2_with fail
        go_roundw
        case rel => exact ⟨k, _, _, by go_num, R2.out⟩
        case measure => have := HK.out; simp [intOf]; omega
end
end Go.Proofs.YtpmdnbdmocdngaaGreat

namespace Go.Proofs.YtpmdnbdmocdngaaGreat
open Go.ChangeShapes Go.WideShapes Go.ChangeAt Go.RowKit
set_option linter.unusedVariables false
set_option linter.unusedSimpArgs false

theorem below_alike {B : Nat} {a w W : World} (h : Below B a w) (he : W.heap = w.heap) (h1 : W.os = w.os) (h2 : W.tape = w.tape) (h3 : W.output = w.output) : Below B a W :=
  ⟨h1.trans h.os, h2.trans h.tape, h3.trans h.output, by rw [he]; exact h.size, fun k hk => by rw [he]; exact h.block k hk⟩
theorem below_on {a w W we : World} (h : Below a.heap.size a w) (k : Below W.heap.size W we) (he : W.heap = w.heap) (h1 : W.os = w.os) (h2 : W.tape = w.tape) (h3 : W.output = w.output) : Below a.heap.size a we :=
  (below_alike h he h1 h2 h3).trans (k.mono (below_alike h he h1 h2 h3).size)
section
variable {B : Nat} {τ : Nat → Nat} {w : World} {p n : Nat} {d : Sd}
set_option maxHeartbeats 3200000 in
theorem qdown_any (h : Sr B τ w p n d) {i v : Nat} (hq : QH n d.hp d.pl i v) (hn : n ≤ 65536) (hl : d.hp.length ≤ n) (hsc : d.sc.length = n) :
    Calls Tryz.prog 133 #[qp p, .int .i64 (i : Int), .int .i32 (v : Int)] w fun e w' => e = .returned (.tuple #[]) ∧ QDone B τ w p n d (Wh d.hp i v) w' := by
  have H0 := Lib.hid (UpR.start h hq)
  have hvn := hq.vn
  have hil := hq.il
  clear h hq
  go_enter Tryz.func133, Tryz.ntmps133
  go_wp2_with fail
  go_loopw [1] (fun iv wr => ∃ (i' : Nat) (hp' : List Nat) (pl' : List Int), iv = .int .i64 i' ∧ UpR B τ w p n d i v wr i' hp' pl') (fun iv _ => d.hp.length - (intOf iv).toNat)
  case atStart => exact ⟨i, _, _, rfl, H0.out⟩
  case round =>
    obtain ⟨i', hp', pl', rfl, hrel⟩ := hrel
    have R := Lib.hid hrel
    have hil' := hrel.qh.il
    have HHL := Lib.hid hrel.hl
    have hpb : hp'.length ≤ 65536 := by have := hrel.hl; omega
    clear hrel
    obtain ⟨g1, c1, a1⟩ := R.out.sr.at_hp (show 0 < hp'.length by omega)
    have f9 := a1.len_hp.1
    have l9 := a1.len_hp.2
    have k9 := a1.cap
    have z1 := a1.lt
    have zp := R.out.sr.plt
    have XK := Lib.hid (fun (k u : Nat) (h : hp'[k]? = some u) => a1.hp h)
    clear a1
    obtain ⟨k, hk⟩ : ∃ k : Nat, k = 2 * i' + 1 := ⟨_, rfl⟩
    have hw1 : IntKind.i64.wrap (2 * (i' : Int)) = 2 * (i' : Int) := IntWalk.i64_in _ (by omega)
    have hw2 : IntKind.i64.wrap (2 * (i' : Int) + 1) = (k : Int) := by rw [IntWalk.i64_in _ (by omega), hk]; omega
    have hw3 : IntKind.i64.wrap ((k : Int) + 1) = (k : Int) + 1 := IntWalk.i64_in _ (by omega)
    have HK := Lib.hid (show i' < k by omega)
    have hkb : k < 200000 := by omega
    clear hk
    by_cases hc1 : k + 1 < hp'.length
    · have hc1' : (k : Int) + 1 < (hp'.length : Int) := by omega
      have hx1 : (0 : Int) ≤ (k : Int) := by omega
      have hx2 : (k : Int) < (hp'.length : Int) := by omega
      have hx3 : (0 : Int) ≤ (k : Int) + 1 := by omega
      have hx4 : ((k : Int) + 1).toNat = k + 1 := by omega
      have hdec : decide ((k : Int) + 1 < (hp'.length : Int)) = true := decide_eq_true hc1'
      obtain ⟨ua, hua⟩ : ∃ u, hp'[k + 1]? = some u := ⟨_, List.getElem?_eq_getElem hc1⟩
      obtain ⟨ub, hub⟩ : ∃ u, hp'[k]? = some u := ⟨_, List.getElem?_eq_getElem (by omega)⟩
      have hka : k + 1 ≠ i' := by have := HK.out; omega
      have hkn : k ≠ i' := by have := HK.out; omega
      have CB := Lib.hid (fun (W : World) (r : UpR B τ w p n d i v W i' hp' pl') => qahead_any r.sr ua ub (by show ua < d.sc.length; have := (r.qh.at_ _ ua hka hua).1; omega) (by show ub < d.sc.length; have := (r.qh.at_ _ ub hkn hub).1; omega))
      have x1 : wr.cell? ⟨g1, k + 1, none⟩ = some (.int .i32 (ua : Int)) := XK.out _ _ hua
      have x2 : wr.cell? ⟨g1, k, none⟩ = some (.int .i32 (ub : Int)) := XK.out _ _ hub
      have HUA := Lib.hid hua
      have HUB := Lib.hid hub
      have W0 := Lib.hid (And.intro zp z1)
      have FF := Lib.hid (And.intro f9 (And.intro x1 x2))
      have BX : Hid (Below wr.heap.size wr wr) := Below.refl _ _
      clear hua hub XK
      go_wp2_with fail
      go_region_held3 (fun w' => w'.cell? ⟨p, 9, none⟩ = some (.slice (some ⟨g1, 0, none⟩) hp'.length c1) ∧ w'.cell? ⟨g1, k + 1, none⟩ = some (.int .i32 (ua : Int)) ∧ w'.cell? ⟨g1, k, none⟩ = some (.int .i32 (ub : Int))) (go_keep) ((go_at_call 168; (with_reducible refine (CB.out _ (by exact R.out.below (below_alike (Below.refl _ _) rfl rfl rfl rfl))).mono ?_); rintro e we ⟨b, rfl, hb⟩; have BX := Lib.hid (below_on BX.out hb rfl rfl rfl rfl); have f9 : we.cell? ⟨p, 9, none⟩ = some (.slice (some ⟨g1, 0, none⟩) hp'.length c1) := (BX.out.cell W0.out.1).trans FF.out.1; have x1 : we.cell? ⟨g1, k + 1, none⟩ = some (.int .i32 (ua : Int)) := (BX.out.cell W0.out.2).trans FF.out.2.1; have x2 : we.cell? ⟨g1, k, none⟩ = some (.int .i32 (ub : Int)) := (BX.out.cell W0.out.2).trans FF.out.2.2; clear hb))
      have R := Lib.hid (R.out.below BX.out)
      have z1 : g1 < we.heap.size := Nat.lt_of_lt_of_le W0.out.2 BX.out.size
      have zp : p < we.heap.size := Nat.lt_of_lt_of_le W0.out.1 BX.out.size
      clear CB W0 FF BX
      cases b
      · obtain ⟨u0, rfl⟩ : ∃ u, u = ub := ⟨ub, rfl⟩
        have xk := x2
        have HU := Lib.hid HUB.out
        clear x1 x2 HUA HUB
        have hu0n := (R.out.qh.at_ (k) u0 hkn HU.out).1
        have CA := Lib.hid (qahead_any R.out.sr v u0 (by show v < d.sc.length; omega) (by show u0 < d.sc.length; omega))
        go_wp2_with fail
        (with_reducible refine CA.out.mono ?_)
        rintro e w1 ⟨b, rfl, hb⟩
        have R := Lib.hid (R.out.below hb)
        have CF := Lib.hid (R.out.put v hvn hn hl)
        have CM := Lib.hid (R.out.put u0 hu0n hn hl)
        have f9' : w1.cell? ⟨p, 9, none⟩ = some (.slice (some ⟨g1, 0, none⟩) hp'.length c1) := (hb.cell zp).trans f9
        have xk' : w1.cell? ⟨g1, k, none⟩ = some (.int .i32 (u0 : Int)) := (hb.cell z1).trans xk
        have z1' : g1 < w1.heap.size := Nat.lt_of_lt_of_le z1 hb.size
        have zp' : p < w1.heap.size := Nat.lt_of_lt_of_le zp hb.size
        clear hb f9 xk CA z1 zp
        cases b
        · go_wp2_with fail
          (with_reducible refine CM.out.mono ?_)
          rintro e w2 ⟨rfl, hs, ht⟩
          have R2 := Lib.hid (R.out.move HU.out hkn hs ht)
          clear hs ht
          go_wp2_with fail
          go_roundw
          case rel => exact ⟨k, _, _, by first | rfl | go_num, R2.out⟩
          case measure => have := HK.out; have := HHL.out; simp [intOf]; omega
        · go_wp2_with fail
          (with_reducible refine CF.out.mono ?_)
          rintro e w2 ⟨rfl, hs, ht⟩
          have HD := Lib.hid (R.out.done hs ht)
          clear hs ht
          go_wp2_with fail
          go_end0
          exact ⟨rfl, HD.out⟩
      · obtain ⟨u0, rfl⟩ : ∃ u, u = ua := ⟨ua, rfl⟩
        have xk := x1
        have HU := Lib.hid HUA.out
        have hkn : k + 1 ≠ i' := by have := HK.out; omega
        have HK := Lib.hid (show i' < k + 1 by have := HK.out; omega)
        clear x1 x2 HUA HUB hka
        have hu0n := (R.out.qh.at_ (k + 1) u0 hkn HU.out).1
        have CA := Lib.hid (qahead_any R.out.sr v u0 (by show v < d.sc.length; omega) (by show u0 < d.sc.length; omega))
        go_wp2_with fail
        (with_reducible refine CA.out.mono ?_)
        rintro e w1 ⟨b, rfl, hb⟩
        have R := Lib.hid (R.out.below hb)
        have CF := Lib.hid (R.out.put v hvn hn hl)
        have CM := Lib.hid (R.out.put u0 hu0n hn hl)
        have f9' : w1.cell? ⟨p, 9, none⟩ = some (.slice (some ⟨g1, 0, none⟩) hp'.length c1) := (hb.cell zp).trans f9
        have xk' : w1.cell? ⟨g1, k + 1, none⟩ = some (.int .i32 (u0 : Int)) := (hb.cell z1).trans xk
        have z1' : g1 < w1.heap.size := Nat.lt_of_lt_of_le z1 hb.size
        have zp' : p < w1.heap.size := Nat.lt_of_lt_of_le zp hb.size
        clear hb f9 xk CA z1 zp
        cases b
        · go_wp2_with fail
          (with_reducible refine CM.out.mono ?_)
          rintro e w2 ⟨rfl, hs, ht⟩
          have R2 := Lib.hid (R.out.move HU.out hkn hs ht)
          clear hs ht
          go_wp2_with fail
          go_roundw
          case rel => exact ⟨k + 1, _, _, by first | rfl | go_num, R2.out⟩
          case measure => have := HK.out; have := HHL.out; simp [intOf]; omega
        · go_wp2_with fail
          (with_reducible refine CF.out.mono ?_)
          rintro e w2 ⟨rfl, hs, ht⟩
          have HD := Lib.hid (R.out.done hs ht)
          clear hs ht
          go_wp2_with fail
          go_end0
          exact ⟨rfl, HD.out⟩
    · have hc1' : (hp'.length : Int) ≤ (k : Int) + 1 := by omega
      have hdec : decide ((k : Int) + 1 < (hp'.length : Int)) = false := decide_eq_false (by omega)
      by_cases hc2 : k < hp'.length
      · obtain ⟨u0, hu0⟩ : ∃ u, hp'[k]? = some u := ⟨_, List.getElem?_eq_getElem hc2⟩
        have xk : wr.cell? ⟨g1, k, none⟩ = some (.int .i32 (u0 : Int)) := XK.out _ _ hu0
        have HU := Lib.hid hu0
        have hkn : k ≠ i' := by have := HK.out; omega
        clear hu0 XK
        go_wp2_with fail
        go_quiet (fail)
        have R := Lib.hid (R.out.below (Below.draws (Below.refl _ _) nq))
        have hu0n := (R.out.qh.at_ (k) u0 hkn HU.out).1
        have CA := Lib.hid (qahead_any R.out.sr v u0 (by show v < d.sc.length; omega) (by show u0 < d.sc.length; omega))
        go_wp2_with fail
        (with_reducible refine CA.out.mono ?_)
        rintro e w1 ⟨b, rfl, hb⟩
        have R := Lib.hid (R.out.below hb)
        have CF := Lib.hid (R.out.put v hvn hn hl)
        have CM := Lib.hid (R.out.put u0 hu0n hn hl)
        have f9' : w1.cell? ⟨p, 9, none⟩ = some (.slice (some ⟨g1, 0, none⟩) hp'.length c1) := (hb.cell zp).trans f9
        have xk' : w1.cell? ⟨g1, k, none⟩ = some (.int .i32 (u0 : Int)) := (hb.cell z1).trans xk
        have z1' : g1 < w1.heap.size := Nat.lt_of_lt_of_le z1 hb.size
        have zp' : p < w1.heap.size := Nat.lt_of_lt_of_le zp hb.size
        clear hb f9 xk CA z1 zp
        cases b
        · go_wp2_with fail
          (with_reducible refine CM.out.mono ?_)
          rintro e w2 ⟨rfl, hs, ht⟩
          have R2 := Lib.hid (R.out.move HU.out hkn hs ht)
          clear hs ht
          go_wp2_with fail
          go_roundw
          case rel => exact ⟨k, _, _, by first | rfl | go_num, R2.out⟩
          case measure => have := HK.out; have := HHL.out; simp [intOf]; omega
        · go_wp2_with fail
          (with_reducible refine CF.out.mono ?_)
          rintro e w2 ⟨rfl, hs, ht⟩
          have HD := Lib.hid (R.out.done hs ht)
          clear hs ht
          go_wp2_with fail
          go_end0
          exact ⟨rfl, HD.out⟩
      · have hc3 : (hp'.length : Int) ≤ (k : Int) := by omega
        clear XK
        go_wp2_with fail
        go_quiet (fail)
        have R := Lib.hid (R.out.below (Below.draws (Below.refl _ _) nq))
        have CF := Lib.hid (R.out.put v hvn hn hl)
        go_wp2_with fail
        (with_reducible refine CF.out.mono ?_)
        rintro e w2 ⟨rfl, hs, ht⟩
        have HD := Lib.hid (R.out.done hs ht)
        clear hs ht
        go_wp2_with fail
        go_end0
        exact ⟨rfl, HD.out⟩
end
end Go.Proofs.YtpmdnbdmocdngaaGreat
