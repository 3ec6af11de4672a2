/-
  over of package fix: what holds at a round's head.
-/
import Derived.Test.YtgbmiphaabeodaaDoorFixN
import Derived.Test.YtgbmiphaabeodaaDoorFixL
import Derived.Test.YtgbmiphaabeodaaDoorFixM
import Derived.Maps.OwnOps
import Derived.Maps.Views
namespace Go.Proofs.YtgbmiphaabeodaaDoor
open Go.ChangeShapes Go.WideShapes Go.ChangeAt Go.RowKit Go.Maps
set_option linter.unusedVariables false

abbrev MTT : TypeId := 119
/-- A map of terms to terms. -/
def MadeAt (n : Nat) (f : Int → Option Int) (W : World) (b : Nat) : Prop := ∃ D, W.ownsMap Tryd.prog 33 (plainElem (H := Unit) Tryd.prog 33) b n D ∧ ∀ z, (Lit.int .i64 z).wf = true → ∀ d, D.atKey (.int .i64 z) d = (match f z with | some y => .lit (.int .i64 y) | none => d)
section
variable {n : Nat} {f : Int → Option Int} {W W' : World} {b : Nat}
theorem MadeAt.same (h : MadeAt n f W b) (e : W'.heap[b]? = W.heap[b]?) : MadeAt n f W' b := by
  obtain ⟨D, ho, hh⟩ := h
  exact ⟨D, ownsMap_same ho e, hh⟩
theorem MadeAt.lt (h : MadeAt n f W b) : b < W.heap.size := by
  obtain ⟨D, ho, hh⟩ := h
  exact ho.lt
theorem MadeAt.made (W : World) : MadeAt 0 (fun _ => none) (W.alloc (.map #[] 0)) W.heap.size := ⟨_, World.ownsMap_made _ _ _ _, fun z _ d => atKey_of_not_has (by simp [has_eq]) d⟩
theorem MadeAt.look (h : MadeAt n f W b) {z : Int} (hz : (Lit.int .i64 z).wf = true) : (Instr.lookup MTT (.map (some b)) (.int .i64 z) false).run Tryd.prog W = .ok (.int .i64 ((f z).getD 0)) W := by
  obtain ⟨D, ho, hh⟩ := h
  obtain ⟨c, hrun, hat, hwc⟩ := ho.lookup_int keyedT Tryd.underlying119 Tryd.underlying33 (zeroT W) (keyT hz)
  rw [hh z hz] at hat
  rw [hrun]
  cases hf : f z with
  | none =>
    rw [hf] at hat
    simp only [DataW.lit.injEq, Lit.int.injEq, true_and] at hat
    rw [← hat]; rfl
  | some y =>
    rw [hf] at hat
    simp only [DataW.lit.injEq, Lit.int.injEq, true_and] at hat
    rw [← hat]; rfl
theorem MadeAt.of_put {D : DataW Unit} {z y : Int} (hD : IsMap D) (hz : (Lit.int .i64 z).wf = true) (hh : ∀ z, (Lit.int .i64 z).wf = true → ∀ d, D.atKey (.int .i64 z) d = (match f z with | some y => .lit (.int .i64 y) | none => d))
    (ho : W'.ownsMap Tryd.prog 33 (plainElem (H := Unit) Tryd.prog 33) b (n + 1) (D.put (.int .i64 z) (.lit (.int .i64 y)))) : MadeAt (n + 1) (fun x => if x = z then some y else f x) W' b := by
  refine ⟨_, ho, fun x hx d => ?_⟩
  by_cases e : x = z
  · subst e
    rw [atKey_put_same hD (keyedT.key (keyT hx))]
    simp only [if_true]
  · rw [atKey_put_other (fun k => e (by injection k)), hh x hx]
    simp only [if_neg e]
end
theorem MStep.grown {k : Nat} {w w4 w5 : World} {tb mb : Nat} {ns ns' : List Nd} {foot foot' : Nat → Prop} (h : MStep k w tb ns foot w4 ns' foot') (hg : w4.grownBy w5 (some mb)) (hm : ¬ foot' mb) (ge : w.heap.size ≤ mb) : MStep k w tb ns foot w5 ns' foot' :=
  ⟨h.ar.keep (fun b hb => hg.block b (h.ar.lt b hb) (fun e => by injection e with e; subst e; exact hm hb)) hg.size, h.kept.trans (Kept.of_grown (S := fun k => k = mb) hg (fun k e => by injection e with e; exact e.symm)) (fun b hb e => by subst e; omega), h.foot_, h.ext, h.len⟩
/-- Vars of one id are one. -/
theorem Ar.one_var {w : World} {ab : Nat} {ns : List Nd} {foot : Nat → Prop} (h : Ar w ab ns foot) {i j : Nat} {m m' : Nd} (hi : ns[i]? = some m) (hj : ns[j]? = some m') (ho : m.op = 2) (ho' : m'.op = 2) (hv : m.val = m'.val) : m = m' := by
  have hw := h.wf i m hi
  obtain ⟨nv, iv, mv, vs, hvars, h⟩ := h
  have v0 := hw.v0
  have v1 := (hw.two ho).1
  obtain ⟨id, hid⟩ := Int.eq_ofNat_of_zero_le v0
  rcases hvars.2 id (by omega) with ⟨_, h1⟩ | ⟨_, _, _, _, _, _, h1⟩
  · exact absurd hid (h1 i m hi ho)
  · have e1 := h1 i m hi ho hid
    have e2 := h1 j m' hj ho' (hv ▸ hid)
    rw [e1] at hi; rw [e2] at hj
    exact Option.some.inj (hi.symm.trans hj)
structure OvIn (w : World) (fb tb gb : Nat) (nsF ns : List Nd) (footF foot : Nat → Prop) (g : Nat → Option Int) (A : Option Addr) (ls : List Int) : Prop where
  f : Ar w fb nsF footF
  t : Ar w tb ns foot
  ap : ∀ b, footF b → ¬ foot b
  hg : Has w gb 81 (ga g)
  gf : ¬ foot gb
  ok : GOk g
  l : NumsAt .i64 w A ls
  lf : ∀ a, A = some a → ¬ foot a.block
  all : ∀ z ∈ ls, isT nsF z
  pre : ∀ (k : Nat) (z : Int) (n : Nd), ls[k]? = some z → nd nsF z = some n → InL (ls.take k) n.a ∧ InL (ls.take k) n.b ∧ InL (ls.take k) n.c
  room : ns.length + ls.length ≤ 65536
  comp : ∀ (i j : Nat) (m m' : Nd), ns[i]? = some m → nsF[j]? = some m' → m.op = 2 → m'.op = 2 → m.val = m'.val → m.w = m'.w
structure OvR (w wr : World) (tb mb : Nat) (nsF ns nsk : List Nd) (foot footk : Nat → Prop) (g : Nat → Option Int) (ls : List Int) (k : Nat) (last : Int) (f : Int → Option Int) : Prop where
  st : MStep k w tb ns foot wr nsk footk
  mf : ¬ footk mb
  ge : w.heap.size ≤ mb
  made : MadeAt k f wr mb
  z0 : f 0 = none
  mp : ∀ z ∈ ls.take k, ∃ y, f z = some y ∧ isT nsk y ∧ tr nsk y = (tr nsF z).sub g
  vars : ∀ (i : Nat) (m : Nd), nsk[i]? = some m → m.op = 2 → ns[i]? = some m ∨ ∃ j : Nat, nsF[j]? = some m
  new : ∀ i : Nat, ns.length ≤ i → i < nsk.length → ∃ z ∈ ls, tr nsk ((i : Int) + 1) = (tr nsF z).sub g
  last0 : k = 0 → last = 0
  last1 : ∀ (j : Nat) (z : Int), k = j + 1 → ls[j]? = some z → isT nsk last ∧ tr nsk last = (tr nsF z).sub g
section
variable {w wr W : World} {fb tb gb mb k : Nat} {nsF ns nsk : List Nd} {footF foot footk : Nat → Prop} {g : Nat → Option Int} {A : Option Addr} {ls : List Int} {last : Int} {f : Int → Option Int}
theorem OvR.start (I : OvIn w fb tb gb nsF ns footF foot g A ls) : OvR w (w.alloc (.map #[] 0)) tb w.heap.size nsF ns ns foot foot g ls 0 0 (fun _ => none) :=
  ⟨(MStep.refl I.t).ahead ((Below.refl _ _).alloc (Nat.le_refl _) _), fun h => Nat.lt_irrefl _ (I.t.lt _ h), Nat.le_refl _, MadeAt.made w, rfl, fun z hz => by simp at hz, fun i m hi _ => .inl hi, fun i h1 h2 => by omega, fun _ => rfl, fun j z h => by omega⟩
theorem OvR.below (R : OvR w wr tb mb nsF ns nsk foot footk g ls k last f) (b : Below wr.heap.size wr W) : OvR w W tb mb nsF ns nsk foot footk g ls k last f :=
  ⟨R.st.ahead b, R.mf, R.ge, R.made.same (b.block _ R.made.lt), R.z0, R.mp, R.vars, R.new, R.last0, R.last1⟩
theorem OvR.ofrom (R : OvR w wr tb mb nsF ns nsk foot footk g ls k last f) (I : OvIn w fb tb gb nsF ns footF foot g A ls) : Ar wr fb nsF footF := I.f.kept R.st.kept I.ap
theorem OvR.part (R : OvR w wr tb mb nsF ns nsk foot footk g ls k last f) {p : Int} (hp : InL (ls.take k) p) (hall : ∀ z ∈ ls, isT nsF z) : Pt nsk g (tr nsF p) ((f p).getD 0) ∧ 0 ≤ (f p).getD 0 ∧ (f p).getD 0 ≤ (nsk.length : Int) := by
  rcases hp with rfl | hp
  · rw [R.z0, tr_zero]
    exact ⟨⟨tr_zero, fun _ => rfl, fun h => absurd rfl h⟩, Int.le_refl _, by show (0 : Int) ≤ _; omega⟩
  · obtain ⟨y, e, h1, h2⟩ := R.mp p hp
    rw [e]
    refine ⟨⟨h2, fun h => ?_, fun _ => h1⟩, ?_⟩
    · rw [h] at h2
      exact absurd h2 (tr_some R.st.ar.wf h1)
    · have := h1.1; have := h1.2
      show 0 ≤ y ∧ y ≤ _
      omega
theorem OvR.cell (R : OvR w wr tb mb nsF ns nsk foot footk g ls k last f) (I : OvIn w fb tb gb nsF ns footF foot g A ls) {j : Nat} {z : Int} (hz : ls[j]? = some z) : ∃ a, A = some a ∧ wr.cell? (a.add j) = some (.int .i64 z) ∧ a.block < wr.heap.size := by
  obtain ⟨a, ha, hc⟩ := I.l.get j z hz
  refine ⟨a, ha, ?_, Nat.lt_of_lt_of_le (I.l.lt a ha) R.st.kept.size⟩
  have hb := R.st.kept.block a.block (I.l.lt a ha) (I.lf a ha)
  unfold World.cell? at hc ⊢
  rw [add_block] at hc ⊢
  rw [hb]; exact hc
theorem OvR.agIn (R : OvR w wr tb mb nsF ns nsk foot footk g ls k last f) (I : OvIn w fb tb gb nsF ns footF foot g A ls) (hb : Below wr.heap.size wr W) {z : Int} {n : Nd} (hz : ls[k]? = some z) (hn : nd nsF z = some n) :
    AgIn W tb gb nsk footk g n.op n.w n.val ((f n.a).getD 0) ((f n.b).getD 0) ((f n.c).getD 0) (tr nsF n.a) (tr nsF n.b) (tr nsF n.c) := by
  have hF := I.f.wf
  have hk : k < ls.length := (List.getElem?_eq_some_iff.1 hz).1
  obtain ⟨pa, pb, pc⟩ := I.pre k z n hz hn
  have hw := tr_wf hF z
  have hN := tr_nrm hF I.f.nrm z
  rw [tr_of hF hn] at hw hN
  refine ⟨(R.st.ahead hb).ar, by have := R.st.len; have := I.room; omega, (I.hg.kept R.st.kept I.gf).same (hb.block _ (Nat.lt_of_lt_of_le I.hg.lt R.st.kept.size)), fun h => ?_, I.ok, hw, hN, (R.part pa I.all).1, (R.part pb I.all).1, (R.part pc I.all).1, fun ho i m hi hop hv => ?_⟩
  · rcases R.st.foot_ gb h with h | h
    · exact I.gf h
    · have := I.hg.lt; omega
  · rcases R.vars i m hi hop with h | ⟨j, h⟩
    · exact I.comp i _ m n h (nd_pos hn).2.2 hop ho hv
    · exact congrArg Nd.w (I.f.one_var h (nd_pos hn).2.2 hop ho hv)
theorem OvR.next {w3 w4 w5 : World} {y : Int} {ns' : List Nd} {foot' : Nat → Prop} {z : Int} {n : Nd} (R : OvR w wr tb mb nsF ns nsk foot footk g ls k last f) (I : OvIn w fb tb gb nsF ns footF foot g A ls) (hb : Below wr.heap.size wr w3) (hz : ls[k]? = some z) (hn : nd nsF z = some n)
    (st : Step w3 tb nsk footk w4 ns' foot') (tp : TP nsk ((tr nsF z).sub g) y ns') (hv : ∀ (i : Nat) (m : Nd), ns'[i]? = some m → m.op = 2 → nsk[i]? = some m ∨ (n.op = 2 ∧ m = ⟨2, n.w, n.val, 0, 0, 0⟩))
    (hg : w4.grownBy w5 (some mb)) (hm : MadeAt (k + 1) (fun x => if x = z then some y else f x) w5 mb) :
    OvR w w5 tb mb nsF ns ns' foot foot' g ls (k + 1) y (fun x => if x = z then some y else f x) := by
  have hk : k < ls.length := (List.getElem?_eq_some_iff.1 hz).1
  have hzm : z ∈ ls := List.mem_of_getElem? hz
  have hz1 := (I.all z hzm).1
  have hmf : ¬ foot' mb := fun h => by
    rcases st.foot_ mb h with h | h
    · exact R.mf h
    · have := R.made.lt; have := hb.size; omega
  refine ⟨((R.st.ahead hb).trans st.many).grown hg hmf R.ge, hmf, R.ge, hm, ?_, fun x hx => ?_, fun i m hi ho => ?_, fun i h1 h2 => ?_, fun h => by omega, fun j z' hj hz' => ?_⟩
  · show (if (0 : Int) = z then some y else f 0) = none
    rw [if_neg (by omega)]; exact R.z0
  · by_cases e : x = z
    · subst e
      exact ⟨y, if_pos rfl, tp.t, tp.tr⟩
    · have hx' : x ∈ ls.take k := by
        rw [List.take_add_one, hz] at hx
        rcases List.mem_append.1 hx with h | h
        · exact h
        · exact absurd (by simpa using h) e
      obtain ⟨y', e1, e2, e3⟩ := R.mp x hx'
      have := ext_tr st.ar.wf st.ext e2
      exact ⟨y', by show (if x = z then some y else f x) = _; rw [if_neg e]; exact e1, this.1, this.2.trans e3⟩
  · rcases hv i m hi ho with h | ⟨ho', rfl⟩
    · exact R.vars i m h ho
    · refine .inr ⟨(z - 1).toNat, ?_⟩
      have hN := (I.f.wf _ n (nd_pos hn).2.2).two ho'
      rw [(nd_pos hn).2.2]
      cases n
      simp at hN ho' ⊢
      exact ⟨ho', hN.2.1, hN.2.2.1, hN.2.2.2⟩
  · by_cases hi : i < nsk.length
    · obtain ⟨z', hz', e⟩ := R.new i h1 hi
      exact ⟨z', hz', ((ext_tr st.ar.wf st.ext (x := (i : Int) + 1) ⟨by omega, by omega⟩).2).trans e⟩
    · rcases tp.o with h | ⟨⟨m, h⟩, hy⟩
      · rw [h] at h2; omega
      · rw [h, List.length_append] at h2
        simp at h2
        refine ⟨z, hzm, ?_⟩
        rw [show ((i : Int) + 1) = y by omega]
        exact tp.tr
  · obtain rfl : j = k := by omega
    obtain rfl := Option.some.inj (hz'.symm.trans hz)
    exact ⟨tp.t, tp.tr⟩
end
end Go.Proofs.YtgbmiphaabeodaaDoor
