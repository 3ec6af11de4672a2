/-
  The program's own tree: Make, Move.
-/
import Derived.Test.YtlnobekjcengfaaTreeTk
namespace Go.Proofs.Ytlnobekjcengfaa
open Go.ChangeShapes Go.WideShapes Go.ChangeAt Go.RowKit Go.Joins
set_option linter.unusedVariables false
set_option linter.unusedSimpArgs false

theorem ChF.mono {F F' : Nat → Prop} {a b : World} (h : ChF F a b) (hs : ∀ k, F k → F' k) : ChF F' a b := ⟨h.os, h.output, h.size, fun k hk hn => h.block k hk (fun e => hn (hs k e))⟩
theorem mk_zero {l : List Itm} (ok : Ok l) {p : List UInt8} {dir : Bool} (h : mkI l (spl p) dir = 0) : nameB p = true ∧ look l p = none ∧ l.length < 8 := by
  unfold mkI at h
  rw [pl_path ok] at h
  cases hn : nameB p with
  | false => rw [hn] at h; simp at h
  | true =>
    rw [hn] at h
    simp only [if_true] at h
    by_cases ha : abv l p = 0
    · rw [if_pos ha, nlook_look ok hn] at h
      cases hk : look l p with
      | some i => rw [hk] at h; simp at h
      | none =>
        rw [hk] at h
        simp only at h
        split at h
        · cases h
        · split at h
          · cases h
          · rename_i h8; exact ⟨rfl, rfl, by omega⟩
    · rw [if_neg ha] at h; exact absurd h ha
theorem snoc_perm {l : List Itm} {p : List UInt8} {i : Itm} (h : look l p = none) : (i :: l.filter (fun i => i.p != p)).Perm (l ++ [i]) := by
  rw [not_filter (look_not h)]
  exact (List.perm_append_comm (l₁ := [i]) (l₂ := l))
/-- Behind Make's store and its new number. -/
theorem make_fin {V w3 : World} {g b n : Nat} {l : List Itm} {nx : Int} {D : DataW Unit} {pl : List UInt8} {q : Pr} {dir : Bool} (h : MT V g (some b) ⟨l, nx⟩) (ok : Ok l) (hq : q = spl pl) (hn : nameB pl = true) (hk : look l pl = none) (hM : MpIs D l)
    (own : w3.ownsMap Try.prog tK eElem b n (D.put (nkl q) (entD nx dir))) (turn : V.mapTurned w3 b) : MT (w3.setCell ⟨g, 1, none⟩ (.int .i64 (nx + 1))) g (some b) ⟨l ++ [⟨pl, dir, nx⟩], nx + 1⟩ ∧ ChF (fun k => k = g ∨ k = b) V (w3.setCell ⟨g, 1, none⟩ (.int .i64 (nx + 1))) := by
  subst hq
  have hm := mt_turn h turn own ((hM.put ok.nm hn nx dir).perm (snoc_perm hk))
  exact ⟨mt_next hm (nx + 1), ((turn_chf turn).mono (fun j hj => .inr hj)).trans (But.set g w3 1 _).chf (fun j hj => .inl (.inl hj))⟩
set_option maxHeartbeats 4000000 in
theorem pmake_any {W : World} {g : Nat} {m : Option Nat} {s : St} (h : MT W g m s) (ok : Ok s.l) (hl8 : s.l.length ≤ 8) (p : ByteArray) (hp : p.size ≤ 140737488351232) (dir : Bool) (n0 : 0 ≤ s.nx) (n1 : s.nx ≤ 4611686018427387904) :
    Calls Try.prog 16 #[.pointer (some ⟨g, 0, none⟩), .string p, .bool dir] W fun e W' => e = .returned (mV (makeT s p.data.toList dir).1) ∧ MkP g m (makeT s p.data.toList dir).2 W W' := by
  have T0 := fun w => tof_any p w hp
  have M0 : ∀ w, Gw W w → Calls Try.prog 31 #[.pointer (some ⟨g, 0, none⟩), .agg #[.string (bs (spl p.data.toList).1), .string (bs (spl p.data.toList).2)], .bool dir] w fun e W' => e = .returned (.int .u16 (mkI s.l (spl p.data.toList) dir)) ∧ Gw w W' := fun w G => mayMake_any (h.on G) ok _ (pk_spl _) dir
  obtain ⟨l, nx⟩ := s
  rw [mk_path ok nx p.data.toList dir]
  simp only at M0 n0 n1 hl8
  have HOK := Lib.hid ok
  have HM := Lib.hid h
  have HMZ0 : Hid (mkI l (spl p.data.toList) dir = 0 → nameB p.data.toList = true ∧ look l p.data.toList = none ∧ l.length < 8) := fun hz => mk_zero ok hz
  have HRM : Hid (l.length < maxLen) := by have : maxLen = 9223372036854775807 := rfl; show _ < _; omega
  have hwr : wrap64 (nx + 1) = nx + 1 := i64_wrap_in (nx + 1) (by omega) (by omega)
  clear h ok hl8 n0 n1
  obtain ⟨pl, hpl⟩ : ∃ pl, pl = p.data.toList := ⟨_, rfl⟩
  rw [← hpl] at T0 M0 HMZ0 ⊢
  have HPK := Lib.hid (pk_spl pl)
  obtain ⟨q, hq⟩ : ∃ q, q = spl pl := ⟨_, rfl⟩
  rw [← hq] at T0 M0 HMZ0 HPK ⊢
  have HQ := Lib.hid hq
  clear hq hpl
  generalize hr : mkI l q dir = r at *
  clear hr
  by_cases e0 : r = 0
  · subst e0
    have HMZ := Lib.hid (HMZ0.out rfl)
    have C0 : ∀ w, Gw W w → w.cell? ⟨g, 0, none⟩ = some (.map m) := fun w G => (HM.out.hd.on G).cell 0
    have hmm := @run_makeMap Try.prog
    rw [if_pos rfl]
    clear HMZ0
    go_enter Try.func16, Try.ntmps16
    go_upto_region 7 with (first
      | (go_at_call 30; with_reducible refine (T0 _).mono ?_; rintro e w1 ⟨rfl, G1⟩; have G1a := G1.trans (Gw.alloc w1 (.cells #[.string (bs q.1), .string (bs q.2)] 75)); have HB := Has.new w1 75 #[.string (bs q.1), .string (bs q.2)])
      | (go_at_call 31; with_reducible refine (M0 _ G1a).mono ?_; rintro e w2 ⟨rfl, G2⟩))
    have g2 := Lib.hid (G1a.trans G2)
    have HB3 := Lib.hid (HB.on G2)
    have c2 := C0 _ g2.out
    have HM2 := Lib.hid (HM.out.on g2.out)
    clear C0 M0 T0 HB G1a G2
    generalize w1.heap.size = nb at *
    clear G1
    cases m with
    | none =>
    have hq0 := fun w => run_eql_map_nil_sl (P := Try.prog) w 64 _ _ none Try.underlying64
    have c2a := (Gw.alloc w2 (.map #[] 0)).cell c2
    have f2a := (HM2.out.hd.on (Gw.alloc w2 (.map #[] 0))).free 0
    go_upto_region 9 with fail
    have HV := Lib.hid (mt_born HM2.out)
    have hne0 : Hid (nb ≠ g) := fun e => by have h1 := HB3.out; have h2 := HM2.out.hd; rw [e] at h1; have := Eq.trans (Eq.symm h1) h2; simp at this
    have HN : Hid (Has ((w2.alloc (.map #[] 0)).setCell ⟨g, 0, none⟩ (.map (some w2.heap.size))) nb 75 #[.string (bs q.1), .string (bs q.2)]) := (HB3.out.on (Gw.alloc _ _)).same (set_other hne0.out)
    have HCH : Hid (ChF (mtF g none) W ((w2.alloc (.map #[] 0)).setCell ⟨g, 0, none⟩ (.map (some w2.heap.size)))) := (ChF.trans (g2.out.chf (F := mtF g none)) (ChF.trans (Gw.chf (F := mtF g none) (Gw.alloc w2 (.map #[] 0))) (But.set g _ 0 _).chf (fun j hj => .inl (.inl hj))) (fun j hj => .inl hj))
    have HNB : Hid (W.heap.size ≤ w2.heap.size) := g2.out.size
    generalize hbb : w2.heap.size = b at *
    generalize ((w2.alloc (.map #[] 0)).setCell ⟨g, 0, none⟩ (.map (some b))) = V at *
    have v0 : V.cell? ⟨g, 0, none⟩ = some (.map (some b)) := HV.out.hd.cell 0
    have v1 : V.cell? ⟨g, 1, none⟩ = some (.int .i64 nx) := HV.out.hd.cell 1
    clear c2 c2a f2a hq0 hbb HM2 HB3 g2 HM
    go_upto_region 10 with fail
    have HV2 := Lib.hid (HV.out.on (Gw.alloc V (.cells #[.int .i64 nx, .bool dir] 77)))
    have HN2 := HN.out.on (Gw.alloc V (.cells #[.int .i64 nx, .bool dir] 77))
    have HE2 := Has.new V 77 #[.int .i64 nx, .bool dir]
    have GE2 : Hid (Gw V (V.alloc (.cells #[.int .i64 nx, .bool dir] 77))) := Gw.alloc _ _
    have hsz : Hid ((V.alloc (.cells #[.int .i64 nx, .bool dir] 77)).heap.size = V.heap.size + 1) := size_alloc _ _
    generalize he : V.heap.size = eb at *
    generalize (V.alloc (.cells #[.int .i64 nx, .bool dir] 77)) = V2 at *
    have y0 : V2.cell? ⟨g, 0, none⟩ = some (.map (some b)) := HV2.out.hd.cell 0
    obtain ⟨x0, _⟩ := box0 HN2
    obtain ⟨x1, _⟩ := box1 HN2
    obtain ⟨k0, _⟩ := box0 HE2
    obtain ⟨k1, _⟩ := box1 HE2
    obtain ⟨D, HO, HP⟩ : ∃ D, Hid (V2.ownsMap Try.prog tK eElem b l.length D) ∧ Hid (MpIs D l) := by
      rcases HV2.out.mp with ⟨h1, _⟩ | ⟨b', D, h1, h2, h3⟩
      · cases h1
      · cases h1; exact ⟨D, h2, h3⟩
    have HE3 := Lib.hid HE2
    clear HE2 HN2
    obtain ⟨w3, hupd, own3, turn3⟩ := (show V2.drew.ownsMap Try.prog tK eElem b l.length D from HO.out).store keyedName Try.underlying64 HRM.out (key_of HPK.out) (eElem_mk nx dir)
    go_region_law (fail)
    all_goals (
      have HF := Lib.hid (make_fin (V := V2.drew) (HV2.out.on (Gw.refl _).drew) HOK.out HQ.out HMZ.out.1 HMZ.out.2.1 HP.out own3 turn3)
      have HT := turn3.grown
      have hge : eb ≠ b := by
        have h1 : b < eb := by rw [← he]; exact HV.out.lt (.inr rfl)
        omega
      have e3 : Has w3 eb 77 #[.int .i64 nx, .bool dir] := HE3.out.same (HT.block eb HE3.out.lt (fun e => hge (Option.some.inj e)))
      have gd3 : Has w3 g 66 #[.map (some b), .int .i64 nx] := HV2.out.hd.same (HT.block g HV2.out.hd.lt (fun e => HV2.out.ne (b := b) rfl (Option.some.inj e).symm))
      obtain ⟨z0, _⟩ := box0 e3
      obtain ⟨z1, q1⟩ := box1 gd3
      have hne : Hid (eb ≠ g) := by
        rintro rfl
        have h1 : _ := HV.out.hd.lt
        rw [he] at h1
        exact absurd h1 (Nat.lt_irrefl _)
      have z2 : (w3.setCell ⟨g, 1, none⟩ (.int .i64 (nx + 1))).cell? ⟨eb, 0, none⟩ = some (.int .i64 nx) := (World.cell?_of_block (set_other hne.out)).trans z0
      clear turn3 own3 HT e3 gd3 hge
      go_wp2
      go_ret2
      refine ⟨rfl, ?_⟩
      exact ⟨(HCH.out.trans (GE2.out.chf (F := mtF g none)) (fun j hj => .inl hj)).trans (ChF.trans (Gw.chf (F := fun k => k = g ∨ k = b) (Gw.refl V2).drew) HF.out.2 (fun j hj => .inl hj)) (fun j hj => by rcases hj with rfl | rfl; exact .inl (.inl rfl); exact .inr HNB.out), some b, HF.out.1, fun k hk => by cases hk; exact .inr HNB.out⟩)
    | some b =>
    have hq0 := fun w => run_eql_map_nil_sl (P := Try.prog) w 64 _ _ (some b) Try.underlying64
    have v1 : w2.cell? ⟨g, 1, none⟩ = some (.int .i64 nx) := HM2.out.hd.cell 1
    go_upto_region 9 with fail
    have HV := HM2
    have HN := HB3
    have HCH : Hid (ChF (mtF g (some b)) W w2) := g2.out.chf
    clear hq0 HM2 HB3 g2 HM
    obtain ⟨V, rfl⟩ : ∃ V, V = w2 := ⟨_, rfl⟩
    go_upto_region 10 with fail
    have HV2 := Lib.hid (HV.out.on (Gw.alloc V (.cells #[.int .i64 nx, .bool dir] 77)))
    have HN2 := HN.out.on (Gw.alloc V (.cells #[.int .i64 nx, .bool dir] 77))
    have HE2 := Has.new V 77 #[.int .i64 nx, .bool dir]
    have GE2 : Hid (Gw V (V.alloc (.cells #[.int .i64 nx, .bool dir] 77))) := Gw.alloc _ _
    have hsz : Hid ((V.alloc (.cells #[.int .i64 nx, .bool dir] 77)).heap.size = V.heap.size + 1) := size_alloc _ _
    generalize he : V.heap.size = eb at *
    generalize (V.alloc (.cells #[.int .i64 nx, .bool dir] 77)) = V2 at *
    have y0 : V2.cell? ⟨g, 0, none⟩ = some (.map (some b)) := HV2.out.hd.cell 0
    obtain ⟨x0, _⟩ := box0 HN2
    obtain ⟨x1, _⟩ := box1 HN2
    obtain ⟨k0, _⟩ := box0 HE2
    obtain ⟨k1, _⟩ := box1 HE2
    obtain ⟨D, HO, HP⟩ : ∃ D, Hid (V2.ownsMap Try.prog tK eElem b l.length D) ∧ Hid (MpIs D l) := by
      rcases HV2.out.mp with ⟨h1, _⟩ | ⟨b', D, h1, h2, h3⟩
      · cases h1
      · cases h1; exact ⟨D, h2, h3⟩
    have HE3 := Lib.hid HE2
    clear HE2 HN2
    obtain ⟨w3, hupd, own3, turn3⟩ := (show V2.drew.ownsMap Try.prog tK eElem b l.length D from HO.out).store keyedName Try.underlying64 HRM.out (key_of HPK.out) (eElem_mk nx dir)
    go_region_law (fail)
    all_goals (
      have HF := Lib.hid (make_fin (V := V2.drew) (HV2.out.on (Gw.refl _).drew) HOK.out HQ.out HMZ.out.1 HMZ.out.2.1 HP.out own3 turn3)
      have HT := turn3.grown
      have hge : eb ≠ b := by
        have h1 : b < eb := by rw [← he]; exact HV.out.lt (.inr rfl)
        omega
      have e3 : Has w3 eb 77 #[.int .i64 nx, .bool dir] := HE3.out.same (HT.block eb HE3.out.lt (fun e => hge (Option.some.inj e)))
      have gd3 : Has w3 g 66 #[.map (some b), .int .i64 nx] := HV2.out.hd.same (HT.block g HV2.out.hd.lt (fun e => HV2.out.ne (b := b) rfl (Option.some.inj e).symm))
      obtain ⟨z0, _⟩ := box0 e3
      obtain ⟨z1, q1⟩ := box1 gd3
      have hne : Hid (eb ≠ g) := by
        rintro rfl
        have h1 : _ := HV.out.hd.lt
        rw [he] at h1
        exact absurd h1 (Nat.lt_irrefl _)
      have z2 : (w3.setCell ⟨g, 1, none⟩ (.int .i64 (nx + 1))).cell? ⟨eb, 0, none⟩ = some (.int .i64 nx) := (World.cell?_of_block (set_other hne.out)).trans z0
      clear turn3 own3 HT e3 gd3 hge
      go_wp2
      go_ret2
      refine ⟨rfl, ?_⟩
      exact ⟨(HCH.out.trans (GE2.out.chf (F := mtF g (some b))) (fun j hj => .inl hj)).trans (ChF.trans (Gw.chf (F := fun k => k = g ∨ k = b) (Gw.refl V2).drew) HF.out.2 (fun j hj => .inl hj)) (fun j hj => by rcases hj with rfl | rfl; exact .inl (.inl rfl); exact .inl (.inr rfl)), some b, HF.out.1, fun k hk => by cases hk; exact .inl rfl⟩)
  · have e1 : (r == 0) = false := beq_false_of_ne e0
    rw [if_neg e0]
    go_enter Try.func16, Try.ntmps16
    go_wp2_with (first
      | (go_at_call 30; with_reducible refine (T0 _).mono ?_; rintro e w1 ⟨rfl, G1⟩; have G1a := G1.trans (Gw.alloc w1 (.cells #[.string (bs q.1), .string (bs q.2)] 75)))
      | (go_at_call 31; with_reducible refine (M0 _ G1a).mono ?_; rintro e w2 ⟨rfl, G2⟩))
    go_ret2
    exact ⟨rfl, MkP.of_gw HM.out (G1a.trans G2)⟩
end Go.Proofs.Ytlnobekjcengfaa
