/-
  The program's own tree: Copy, Make, Drop.
-/
import Derived.Test.YtlnobekjcengfaaTreeTj
namespace Go.Proofs.Ytlnobekjcengfaa
open Go.ChangeShapes Go.WideShapes Go.ChangeAt Go.RowKit Go.Joins
set_option linter.unusedVariables false
set_option linter.unusedSimpArgs false

/-- What was done to a tree. -/
structure MkP (g : Nat) (m : Option Nat) (s' : St) (W W' : World) : Prop where
  ch : ChF (mtF g m) W W'
  ex : ∃ m', MT W' g m' s' ∧ ∀ k, m' = some k → m = some k ∨ W.heap.size ≤ k
theorem MkP.of_gw {W W' : World} {g : Nat} {m : Option Nat} {s : St} (h : MT W g m s) (G : Gw W W') : MkP g m s W W' := ⟨G.chf, m, h.on G, fun _ hk => .inl hk⟩
theorem copy_fin {W w1 : World} {m' : Option Nat} {l : List Itm} {nx : Int} (G : Gw W w1) (hm : ∀ k, m' = some k → W.heap.size ≤ k ∧ k < w1.heap.size) (hM : (m' = none ∧ l = []) ∨ ∃ b D, m' = some b ∧ w1.ownsMap Try.prog tK eElem b l.length D ∧ MpIs D l) :
    Gw W (w1.alloc (.cells #[.map m', .int .i64 nx] 66)) ∧ W.heap.size ≤ w1.heap.size ∧ ∃ m2, MT (w1.alloc (.cells #[.map m', .int .i64 nx] 66)) w1.heap.size m2 ⟨l, nx⟩ ∧ ∀ k, m2 = some k → W.heap.size ≤ k := by
  refine ⟨G.trans (Gw.alloc _ _), G.size, m', ⟨Has.new _ _ _, ?_⟩, fun k hk => (hm k hk).1⟩
  rcases hM with h1 | ⟨b, D, h1, h2, h3⟩
  · exact .inl h1
  · exact .inr ⟨b, D, h1, mown_same h2 (Below.heap_alloc w1 _ b h2.lt), h3⟩
theorem drop_fin {W V w3 : World} {g b n : Nat} {l : List Itm} {nx : Int} {D : DataW Unit} {pl : List UInt8} {q : Pr} (h : MT W g (some b) ⟨l, nx⟩) (G : Gw W V) (ok : Ok l) (hq : q = spl pl) (hn : nameB pl = true) (hM : MpIs D l) (own : w3.ownsMap Try.prog tK eElem b n (D.del (nkl q))) (turn : V.drew.mapTurned w3 b) : MkP g (some b) ⟨l.eraseP (is pl), nx⟩ W w3 := by
  subst hq
  have hm := mt_turn (h.on G.drew) turn own (hM.del ok.nm hn)
  rw [← erase_filter ok.nd] at hm
  exact ⟨(Gw.chf (F := mtF g (some b)) G.drew).trans (turn_chf turn) (fun j hj => .inl (.inr (by rw [hj]))), _, hm, fun k hk => .inl hk⟩
section
variable {W : World} {g : Nat} {m : Option Nat} {s : St}
set_option maxHeartbeats 2000000 in
theorem pcopy_any (h : MT W g m s) : Calls Try.prog 15 #[.pointer (some ⟨g, 0, none⟩)] W fun e W' => ∃ g', e = .returned (.pointer (some ⟨g', 0, none⟩)) ∧ Gw W W' ∧ W.heap.size ≤ g' ∧ ∃ m', MT W' g' m' s ∧ ∀ k, m' = some k → W.heap.size ≤ k := by
  obtain ⟨l, nx⟩ := s
  have C0 : W.cell? ⟨g, 0, none⟩ = some (.map m) := h.hd.cell 0
  have C1 : W.cell? ⟨g, 1, none⟩ = some (.int .i64 nx) := h.hd.cell 1
  have CL : Calls Try.prog 29 #[.map m] W.drew fun e w1 => ∃ m', e = .returned (.map m') ∧ Gw W.drew w1 ∧ (∀ k, m' = some k → W.heap.size ≤ k ∧ k < w1.heap.size) ∧ ((m' = none ∧ l = []) ∨ ∃ b D, m' = some b ∧ w1.ownsMap Try.prog tK eElem b l.length D ∧ MpIs D l) := by
    rcases h.mp with ⟨rfl, h2⟩ | ⟨b, D, rfl, h2, h3⟩
    · exact (AnyW.maps_Clone_nil Try.laysClone W.drew).mono fun e w' ⟨he, hw⟩ => ⟨none, he, by rw [hw]; exact Gw.refl _, fun k hk => (by cases hk), .inl ⟨rfl, h2⟩⟩
    · exact (AnyW.maps_Clone_owns Try.laysClone tK eElem b _ D W.drew h2).mono fun e w' ⟨he, h4, _, h5⟩ => ⟨some _, he, Below.gw h5, fun k hk => (by cases hk; exact ⟨Nat.le_refl _, h4.lt⟩), .inr ⟨_, D, rfl, h4, h3⟩⟩
  clear h
  go_enter Try.func15, Try.ntmps15
  go_upto_region 3 with fail
  go_region_law (first
    | (rw [if_pos (by rfl)]; go_simp; go_at_call 29; refine CL.mono ?_; rintro e w1 ⟨m', rfl, G1, hm', hM⟩; have c1 := G1.cell (show W.drew.cell? ⟨g, 1, none⟩ = _ from C1))
    | fail)
  all_goals (
    go_wp2
    go_ret
    exact ⟨_, rfl, copy_fin ((Gw.refl W).drew.trans G1) hm' hM⟩)
set_option maxHeartbeats 2000000 in
theorem pdrop_any (h : MT W g m s) (ok : Ok s.l) (hl8 : s.l.length ≤ 8) (p : ByteArray) (hp : p.size ≤ 140737488351232) (dir : Bool) : Calls Try.prog 17 #[.pointer (some ⟨g, 0, none⟩), .string p, .bool dir] W fun e W' => e = .returned (.int .u16 (dropT s p.data.toList dir).1) ∧ MkP g m (dropT s p.data.toList dir).2 W W' := by
  have T0 := fun w => tof_any p w hp
  have M0 : ∀ w, Gw W w → Calls Try.prog 32 #[.pointer (some ⟨g, 0, none⟩), .agg #[.string (bs (spl p.data.toList).1), .string (bs (spl p.data.toList).2)], .bool dir] w fun e W' => e = .returned (.int .u16 (dpI s.l (spl p.data.toList) dir)) ∧ Gw w W' := fun w G => mayDrop_any (h.on G) ok hl8 _ (pk_spl _) dir
  obtain ⟨l, nx⟩ := s
  obtain ⟨d1, d2⟩ := dp_path ok nx p.data.toList dir
  rw [← d1]
  simp only at M0 hl8
  have HOK := Lib.hid ok
  have HM := Lib.hid h
  have HD := Lib.hid d2
  have HF : Hid (dpI l (spl p.data.toList) dir = 0 → nameB p.data.toList = true ∧ l ≠ []) := fun hz => by
    unfold dpI at hz
    by_cases e0 : (fnI l (spl p.data.toList)).2.2 = 0
    · exact ⟨(find_zero (by rw [← fn_path ok]; exact e0)).1, fnI_ne e0⟩
    · rw [if_neg e0] at hz; exact absurd hz e0
  clear h ok d1 d2
  obtain ⟨pl, hpl⟩ : ∃ pl, pl = p.data.toList := ⟨_, rfl⟩
  rw [← hpl] at T0 M0 HD HF ⊢
  obtain ⟨q, hq⟩ : ∃ q, q = spl pl := ⟨_, rfl⟩
  rw [← hq] at T0 M0 HD HF ⊢
  have HQ := Lib.hid hq
  clear hq hpl
  generalize hr : dpI l q dir = r at *
  clear hr
  by_cases e0 : r = 0
  · subst e0
    have HF2 := Lib.hid (HF.out rfl)
    have C0 : ∀ w, Gw W w → w.cell? ⟨g, 0, none⟩ = some (.map m) := fun w G => (HM.out.hd.on G).cell 0
    go_enter Try.func17, Try.ntmps17
    go_upto_region 7 with (first
      | (go_at_call 30; with_reducible refine (T0 _).mono ?_; rintro e w1 ⟨rfl, G1⟩; have G1a := G1.trans (Gw.alloc w1 (.cells #[.string (bs q.1), .string (bs q.2)] 75)); have HB := Has.new w1 75 #[.string (bs q.1), .string (bs q.2)])
      | (go_at_call 32; with_reducible refine (M0 _ G1a).mono ?_; rintro e w2 ⟨rfl, G2⟩))
    have g2 := Lib.hid (G1a.trans G2)
    have HB3 := HB.on G2
    obtain ⟨x0, _⟩ := box0 HB3
    obtain ⟨x1, _⟩ := box1 HB3
    have c2 := C0 _ g2.out
    obtain ⟨hnm, hne⟩ := HF2.out
    have HNM := Lib.hid hnm
    clear C0 M0 T0 HB HB3 G1 G2 hnm
    rcases (HM.out.on g2.out).mp with ⟨_, h2⟩ | ⟨b, D, rfl, h2, h3⟩
    · exact absurd h2 hne
    have HO := Lib.hid h2
    have HP := Lib.hid h3
    have hp3 := pk_spl pl
    rw [← HQ.out] at hp3
    clear h2 h3 hne
    go_region_law (first
      | (refine step_delete _ (by rfl) _ _ (by rfl) b _ D (by rfl) HO.out q hp3 (by rfl) ?_; intro w3 own3 turn3)
      | fail)
    all_goals (
      go_wp2
      go_ret
      exact ⟨rfl, by rw [HD.out]; exact drop_fin HM.out g2.out HOK.out HQ.out HNM.out HP.out own3 turn3⟩)
  · have e1 : (r == 0) = false := beq_false_of_ne e0
    have HR := Lib.hid e0
    go_enter Try.func17, Try.ntmps17
    go_wp2_with (first
      | (go_at_call 30; with_reducible refine (T0 _).mono ?_; rintro e w1 ⟨rfl, G1⟩; have G1a := G1.trans (Gw.alloc w1 (.cells #[.string (bs q.1), .string (bs q.2)] 75)))
      | (go_at_call 32; with_reducible refine (M0 _ G1a).mono ?_; rintro e w2 ⟨rfl, G2⟩))
    go_ret
    exact ⟨rfl, by rw [HD.out, if_neg HR.out]; exact MkP.of_gw HM.out (G1a.trans G2)⟩
end
end Go.Proofs.Ytlnobekjcengfaa
