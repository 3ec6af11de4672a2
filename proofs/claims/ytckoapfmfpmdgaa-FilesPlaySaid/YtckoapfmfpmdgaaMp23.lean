/-
  Parts of the proof, joined: TreeTg, TreeTh, TreeTi, MapClone.
-/
import Derived.Test.YtckoapfmfpmdgaaMp22
import Derived.Test.YtckoapfmfpmdgaaProg
import Derived.Shelf.SlMaps.Clone
import Derived.Ground.SlmcProg
import Derived.Shelf.SlGeneric

namespace Go.Proofs.Ytckoapfmfpmdgaa
open Go.ChangeShapes Go.WideShapes Go.ChangeAt Go.RowKit Go.Joins
set_option linter.unusedVariables false
set_option linter.unusedSimpArgs false

section
variable {w w' : World} {b r n cnt : Nat} {D : DataW Unit} {left : Lit → Bool}
theorem ranges_has (h : w.ranges Try.prog tK eElem b r n D left cnt) {kl : Lit} (hk : left kl = true) : Maps.has D kl = true := by
  obtain ⟨es, clock, since, seen, c0, hb, F, hs, rfl, hr, hold, rfl, hl1, hl2, hsc, hsk⟩ := h
  obtain ⟨x, hx, rfl⟩ := hl2 kl hk
  obtain ⟨y, hy⟩ := F.reads x hx
  rw [Maps.has_eq]
  exact List.any_eq_true.2 ⟨_, mem_sorted.2 (List.mem_map.2 ⟨x, hx, rfl⟩), WideAt.sameKey_self (by rw [WideElems.rg_of hy]; exact keyedName.key (WideElems.rd_key hy))⟩
theorem ranges_same (h : w.ranges Try.prog tK eElem b r n D left cnt) (e1 : w'.heap[b]? = w.heap[b]?) (e2 : w'.heap[r]? = w.heap[r]?) : w'.ranges Try.prog tK eElem b r n D left cnt := by
  obtain ⟨es, clock, since, seen, c0, hb, F, hs, hD, hr, rest⟩ := h
  exact ⟨es, clock, since, seen, c0, e1.trans hb, F, hs, hD, e2.trans hr, rest⟩
theorem ranges_on (h : w.ranges Try.prog tK eElem b r n D left cnt) (G : Gw w w') : w'.ranges Try.prog tK eElem b r n D left cnt := ranges_same h (G.block _ h.owns.lt) (G.block _ h.lt)
end
theorem wpList_next_tree {ops : Array Oper} {rest : List Oper} {o : Oper} {a : Act} {Q : Exit → Act → World → Prop} (w : World) (hg : o.guard = none) (it : Operand) (hop : o.op = Op.next it false) (b r n : Nat) (D : DataW Unit) (left : Lit → Bool) (cnt : Nat) (l : List Itm) (hM : MpIs D l)
    (hit : a.eval it = .pointer (some ⟨r, 0, none⟩)) (h : w.ranges Try.prog tK eElem b r n D left cnt)
    (hDone : (∀ kl, left kl = false) → wpList Try.prog ops Q rest (a.put o.dst (.tuple #[.bool false])) w)
    (hMore : ∀ (i : Itm) (v : Value) (w' : World) (cnt' : Nat), i ∈ l → left (nkl (spl i.p)) = true → w'.ranges Try.prog tK eElem b r n D (fun z => left z && !z.sameKey (nkl (spl i.p))) cnt' → cnt' < cnt →
      w.grownBy w' (some r) → w'.heap.size = w.heap.size → (Instr.entry (.pointer (some ⟨r, 0, none⟩))).run Try.prog w' = .ok (.tuple #[tV (spl i.p), v]) w' → wpList Try.prog ops Q rest (a.put o.dst (.tuple #[.bool true, tV (spl i.p), v])) w') :
    wpList Try.prog ops Q (o :: rest) a w := by
  refine wpList_plain hg fun K' hK' => ?_
  unfold Oper.wp
  rcases h.next keyedName o.type with ⟨h0, hl, hrun⟩ | ⟨key, v, kl, y, w', cnt', hkey, hlk, hv, hat, hrun, hrg, hlt, hgr, hsz, hen⟩
  · simp [execOp, hop, hit, hrun, Result.andThen]
    exact hK' _ _ (hDone hl)
  · obtain ⟨i, hi, rfl⟩ := hM.only (ranges_has h hlk)
    obtain rfl : key = tV (spl i.p) := keyedName.inj hkey (key_of (pk_spl i.p))
    simp [execOp, hop, hit, hrun, Result.andThen]
    exact hK' _ _ (hMore i v w' cnt' hi hlk hrg hlt hgr hsz hen)
/-! ### Counting -/
theorem filter_one {l : List Itm} (hn : l.Nodup) {i : Itm} (hi : i ∈ l) {A A' : Itm → Bool} (h : ∀ j ∈ l, j ≠ i → A' j = A j) (h0 : A i = false) : (l.filter A').length = (l.filter A).length + (if A' i = true then 1 else 0) := by
  induction l with
  | nil => cases hi
  | cons j l ih =>
    rw [List.nodup_cons] at hn
    by_cases e : j = i
    · subst e
      have : l.filter A' = l.filter A := List.filter_congr fun k hk => h k (List.mem_cons_of_mem _ hk) (fun q => hn.1 (q ▸ hk))
      rw [List.filter_cons, List.filter_cons, this, h0]
      cases A' j <;> simp
    · have hi' : i ∈ l := by
        rcases List.mem_cons.1 hi with q | q
        · exact absurd q.symm e
        · exact q
      rw [List.filter_cons, List.filter_cons, h j (List.mem_cons_self ..) e]
      have := ih hn.2 hi' (fun k hk => h k (List.mem_cons_of_mem _ hk))
      cases A j
      · simpa using this
      · simp [this]; omega
/-- Does this one stand in p? -/
def inB (p : Pr) (i : Itm) : Bool := decide ((([], (spl i.p).1) : Pr) = p)
def mnI (l : List Itm) (p : Pr) : Nat := (l.filter (inB p)).length
/-- Those that have come. -/
def cmI (l : List Itm) (p : Pr) (left : Lit → Bool) : Nat := (l.filter (fun i => inB p i && !left (nkl (spl i.p)))).length
theorem cm_all {l : List Itm} {p : Pr} {left : Lit → Bool} (h : ∀ k, left k = false) : cmI l p left = mnI l p := by
  unfold cmI mnI
  congr 1
  exact List.filter_congr fun i _ => by rw [h]; simp
theorem cm_none {l : List Itm} {p : Pr} {left : Lit → Bool} (h : ∀ i ∈ l, left (nkl (spl i.p)) = true) : cmI l p left = 0 := by
  unfold cmI
  rw [List.filter_eq_nil_iff.2 fun i hi => by rw [h i hi]; simp]
  rfl
theorem cm_step {l : List Itm} (ok : Ok l) {p : Pr} {left : Lit → Bool} {i : Itm} (hi : i ∈ l) (hl : left (nkl (spl i.p)) = true) :
    cmI l p (fun z => left z && !z.sameKey (nkl (spl i.p))) = cmI l p left + (if inB p i = true then 1 else 0) := by
  have hn : l.Nodup := (List.pairwise_map.1 ok.nd).imp fun h e => h (congrArg _ e)
  unfold cmI
  have := filter_one hn hi (A := fun j => inB p j && !left (nkl (spl j.p))) (A' := fun j => inB p j && !(left (nkl (spl j.p)) && !(nkl (spl j.p)).sameKey (nkl (spl i.p)))) (fun j hj hne => by
    have : ¬ nkl (spl j.p) = nkl (spl i.p) := fun e => hne (ok.same hj hi (spl_inj (ok.nm j hj) (ok.nm i hi) (nkl_inj (pk_spl _) (pk_spl _) e)))
    simp only [Maps.sameKey_ne this, Bool.not_false, Bool.and_true]) (by simp [hl])
  rw [this]
  simp only [WideAt.sameKey_self (nkl_key (pk_spl i.p)), Bool.not_true, Bool.and_false, Bool.not_false, Bool.and_true]
theorem cm_le (l : List Itm) (p : Pr) (left : Lit → Bool) : cmI l p left ≤ l.length := List.length_filter_le _ _
set_option maxRecDepth 100000 in
set_option maxHeartbeats 2000000 in
theorem tmany_any {W : World} {g : Nat} {m : Option Nat} {s : St} (h : MT W g m s) (ok : Ok s.l) (hl8 : s.l.length ≤ 8) (hne : s.l ≠ []) (p : Pr) (hp : Pk p) : Calls Try.prog 58 #[.pointer (some ⟨g, 0, none⟩), tV p] W fun e W' => e = .returned (.int .i64 (mnI s.l p)) ∧ Gw W W' := by
  rcases h.mp with ⟨_, hn⟩ | ⟨b, D, rfl, ho, hM⟩
  · exact absurd hn hne
  have G0 : Hid (Gw W (W.alloc (.cells #[.string (bs p.1), .string (bs p.2)] 98))) := Gw.alloc _ _
  have HB0 := Lib.hid (Has.new W 98 #[.string (bs p.1), .string (bs p.2)])
  have c0 : (W.alloc (.cells #[.string (bs p.1), .string (bs p.2)] 98)).cell? ⟨g, 0, none⟩ = some (.map (some b)) := (h.hd.on G0.out).cell 0
  have hown1 : Hid ((W.alloc (.cells #[.string (bs p.1), .string (bs p.2)] 98)).ownsMap Try.prog tK eElem b s.l.length D) := mown_same ho (G0.out.block _ ho.lt)
  have hbl := Lib.hid ho.lt
  have e1 : (W.alloc (.cells #[.string (bs p.1), .string (bs p.2)] 98)).heap.size = W.heap.size + 1 := size_alloc _ _
  have HOK := Lib.hid ok
  have HM := Lib.hid hM
  have HL := Lib.hid hl8
  have A0 := fun (q : Pr) w => tabove_any q w
  clear h ok hl8 hne ho hM
  generalize s.l = l at *
  go_enter Try.func58, Try.ntmps58
  go_wp2_with (first
    | (at_range; refine wpList_range_own _ rfl _ 87 rfl tK tE keyedName Try.underlying87 eElem b l.length D rfl hown1.out ?_; intro w0 hrg0 hg0 hs0)
    | go_in)
  go_frame
  rw [e1] at hrg0 hs0 ⊢
  have HG0 : Hid (Gw (W.alloc (.cells #[.string (bs p.1), .string (bs p.2)] 98)) w0) := (Gw.refl _).grown hg0 (fun k hk => by cases hk)
  have HE1 := Lib.hid e1
  clear hg0 hs0 e1 c0
  generalize (W.alloc (.cells #[.string (bs p.1), .string (bs p.2)] 98)) = W1 at *
  go_loopw [5] (fun c wr => ∃ (left : Lit → Bool) (cnt : Nat), Hid (wr.ranges Try.prog tK eElem b (W.heap.size + 1) l.length D left cnt) ∧ c = .int .i64 (cmI l p left) ∧ Hid (Gw W1 wr)) (fun _ wr => wr.rangeLeft b (W.heap.size + 1))
  case atStart =>
    refine ⟨_, _, hrg0, ?_, HG0.out⟩
    rw [cm_none (fun i hi => ?_)]
    · rfl
    · obtain ⟨es, rfl, hp2⟩ := HM.out
      rw [Maps.has_eq]
      exact List.any_eq_true.2 ⟨_, hp2.mem_iff.2 (List.mem_map.2 ⟨i, hi, rfl⟩), WideAt.sameKey_self (nkl_key (pk_spl i.p))⟩
  case round =>
    obtain ⟨left, cnt, hrg, rfl, HG⟩ := hrel
    have hle := Lib.hid (Nat.le_trans (cm_le l p left) HL.out)
    obtain ⟨k, hk⟩ : ∃ k, k = cmI l p left := ⟨_, rfl⟩
    rw [← hk] at hle ⊢
    have HK := Lib.hid hk
    clear hk
    go_wp2_with (first
      | (at_next; refine wpList_next_tree _ rfl _ rfl b (W.heap.size + 1) _ D left cnt l HM.out rfl hrg.out ?_ ?_)
      | go_in)
    · intro hl0
      have HE := Lib.hid (HK.out.trans (cm_all hl0))
      clear hl0
      go_wp2
      go_ret
      exact ⟨by rw [← HE.out]; rfl, G0.out.trans HG.out⟩
    · intro i v w1 cnt1 hi hlk hrg1 hlt hg1 hs1 hen
      have HI := Lib.hid hi
      have HLK := Lib.hid hlk
      have HR1 := Lib.hid hrg1
      have HLT := Lib.hid hlt
      have HG1 : Hid (Gw W1 w1) := HG.out.grown hg1 (fun k hk => by cases hk; exact Nat.le_of_eq HE1.out)
      have HST := Lib.hid (cm_step HOK.out (p := p) HI.out HLK.out)
      have HB1 := HB0.out.on HG1.out
      obtain ⟨z0, _⟩ := box0 HB1
      obtain ⟨z1, _⟩ := box1 HB1
      clear hi hlk hrg1 hlt hg1 hs1 HB1
      have hin : inB p i = decide ((([], (spl i.p).1) : Pr) = p) := rfl
      generalize inB p i = q at hin HST
      generalize ha : spl i.p = a at *
      obtain ⟨a1, a2⟩ := a
      obtain ⟨p1, p2⟩ := p
      simp only at z0 z1 hin
      go_upto_region 5 with fail
      have y0 := (Gw.alloc w1 (.cells #[.string (bs a1), .string (bs a2)] 98)).cell z0
      have y1 := (Gw.alloc w1 (.cells #[.string (bs a1), .string (bs a2)] 98)).cell z1
      have t1 : ((bs ([] : List UInt8)).toList == (bs p1).toList) = decide (p1 = []) := by rw [bs_list, bs_list]; cases p1 <;> rfl
      have t2 : ((bs a1).toList == (bs p2).toList) = decide (a1 = p2) := by rw [bs_list, bs_list]; by_cases e : a1 = p2 <;> simp [e]
      have HQ : Hid (q = (decide (p1 = []) && decide (a1 = p2))) := by
        have : (([], a1) : Pr) = (p1, p2) ↔ (p1 = [] ∧ a1 = p2) := ⟨fun h => ⟨(Prod.mk.inj h).1.symm, (Prod.mk.inj h).2⟩, fun ⟨h1, h2⟩ => by rw [h1, h2]⟩
        rw [hin, ← Bool.decide_and]
        exact decide_eq_decide.2 this
      clear hin
      generalize decide (p1 = []) = q1 at t1 HQ
      generalize decide (a1 = p2) = q2 at t2 HQ
      have GA1 := Gw.alloc w1 (.cells #[.string (bs a1), .string (bs a2)] 98)
      have A1 : ∀ w, Calls Try.prog 87 #[.agg #[.string (bs a1), .string (bs a2)]] w fun e W' => e = .returned (tV ([], a1)) ∧ Gw w W' := fun w => A0 (a1, a2) w
      go_cut [19] (fun sx wx => sx = .bool q ∧ Hid (Gw w1 wx))
      case first =>
        cases q1 <;> cases q2 <;> (
          go_region_law (first
            | (rw [if_pos (by rfl)]; go_simp; go_at_call 87; with_reducible refine (A1 _).mono ?_; rintro e w2 ⟨rfl, G2⟩; have x0 := ((GA1.drew).trans G2).cell z0; have x1 := ((GA1.drew).trans G2).cell z1)
            | fail)
          all_goals (
            go_wp2_with fail
            go_meet
            exact ⟨by rw [HQ.out]; rfl, GA1.drew.trans G2⟩))
      case rest =>
        obtain ⟨rfl, GX⟩ := hcut
        have HX := Lib.hid (HG1.out.trans GX.out)
        have HRX := Lib.hid (ranges_on HR1.out GX.out)
        have hme : Hid (wc.rangeLeft b (W.heap.size + 1) < wr.rangeLeft b (W.heap.size + 1)) := by
          show _ < _
          rw [HRX.out.left_eq, hrg.out.left_eq]; exact HLT.out
        clear t1 t2 y0 y1 z0 z1
        have h62 : (k : Int) + 1 ≤ 9223372036854775807 := by have := hle.out; omega
        cases q with
        | false =>
          go_wp2
          go_roundw
          case rel => exact ⟨_, _, HRX.out, by rw [HST.out, ← HK.out]; rfl, HX.out⟩
          case measure => exact hme.out
        | true =>
          go_wp2
          go_roundw
          case rel => exact ⟨_, _, HRX.out, by rw [HST.out, ← HK.out]; go_num, HX.out⟩
          case measure => exact hme.out
end Go.Proofs.Ytckoapfmfpmdgaa

namespace Go.Proofs.Ytckoapfmfpmdgaa
open Go.ChangeShapes Go.WideShapes Go.ChangeAt Go.RowKit Go.Joins
set_option linter.unusedVariables false
set_option linter.unusedSimpArgs false

def mkI (l : List Itm) (p : Pr) (dir : Bool) : Int := if plI l p = 0 then (match nlook l p with | some _ => 65297 | none => if dir = true ∧ p.1 ≠ [] then 65302 else if 8 ≤ l.length then 65308 else 0) else plI l p
def dpI (l : List Itm) (p : Pr) (dir : Bool) : Int := if (fnI l p).2.2 = 0 then (if (fnI l p).2.1 = true ∧ dir = false then 65301 else if dir = true ∧ (fnI l p).2.1 = false then 65300 else if 0 < mnI l p then 65319 else 0) else (fnI l p).2.2
def mvI (l : List Itm) (p q : Pr) : Int := if (fnI l p).2.2 = 0 then (if (fnI l p).2.1 = true then 65301 else if plI l q = 0 then (if lkD (nlook l q) = true then 65301 else 0) else plI l q) else (fnI l p).2.2
theorem fnI_ne {l : List Itm} {p : Pr} (h : (fnI l p).2.2 = 0) : l ≠ [] := by
  rintro rfl
  unfold fnI at h
  split at h
  · simp [nlook] at h
  · rename_i h1; exact h1 h
theorem field_dir (w : World) (n : Int) (d : Bool) : (Instr.field 100 (entV n d) 1).run Try.prog w = .ok (.bool d) w := by kernel_rfl
set_option maxHeartbeats 2000000 in
theorem mayMake_any {W : World} {g : Nat} {m : Option Nat} {s : St} (h : MT W g m s) (ok : Ok s.l) (p : Pr) (hp : Pk p) (dir : Bool) : Calls Try.prog 54 #[.pointer (some ⟨g, 0, none⟩), tV p, .bool dir] W fun e W' => e = .returned (.int .u16 (mkI s.l p dir)) ∧ Gw W W' := by
  have hn : ∀ b w, (Op.unary .not (.bool b)).run Try.prog w = .ok (.bool (!b)) w := fun _ _ => rfl
  have L0 : ∀ w, Gw W w → (Instr.lookup 87 (.map m) (.agg #[.string (bs p.1), .string (bs p.2)]) true).run Try.prog w = .ok (.tuple #[entV (lkN (nlook s.l p)) (lkD (nlook s.l p)), .bool (nlook s.l p).isSome]) w := fun w G => (h.on G).look ok hp
  have P0 : ∀ w, Gw W w → Calls Try.prog 85 #[.pointer (some ⟨g, 0, none⟩), tV p] w fun e W' => e = .returned (.int .u16 (plI s.l p)) ∧ Gw w W' := fun w G => place_any (h.on G) ok p hp
  have C0 : ∀ w, Gw W w → w.cell? ⟨g, 0, none⟩ = some (.map m) := fun w G => (h.hd.on G).cell 0
  have LN : ∀ w, Gw W w → ∀ ty, (Builtin.len_ #[87] ty #[.map m]).run Try.prog w = .ok (.int .i64 s.l.length) w := fun w G ty => (h.on G).len ty
  have D0 := fun w => tdeep_any p w
  have HB0 := Has.new W 98 #[.string (bs p.1), .string (bs p.2)]
  have G0 : Gw W (W.alloc (.cells #[.string (bs p.1), .string (bs p.2)] 98)) := Gw.alloc _ _
  unfold mkI
  clear h ok
  by_cases e0 : plI s.l p = 0
  · rw [if_pos e0]
    simp only [e0] at P0
    generalize nlook s.l p = o at L0 ⊢
    generalize s.l.length = n at LN ⊢
    clear e0
    go_enter Try.func54, Try.ntmps54
    go_upto_region 4 with (go_at_call 85; with_reducible refine (P0 _ G0).mono ?_; rintro e w1 ⟨rfl, G1⟩)
    have g1 := G0.trans G1
    have c1 := C0 _ g1
    have l1 := L0 _ g1.drew
    have HB3 := HB0.on G1
    obtain ⟨x0, _⟩ := box0 HB3
    obtain ⟨x1, _⟩ := box1 HB3
    have c1a := C0 _ (g1.trans (Gw.alloc w1 (.cells #[.int .i64 0, .bool false] 100)))
    have l1a := L0 _ (g1.trans (Gw.alloc w1 (.cells #[.int .i64 0, .bool false] 100))).drew
    obtain ⟨x0a, _⟩ := box0 (HB3.on (Gw.alloc w1 (.cells #[.int .i64 0, .bool false] 100)))
    obtain ⟨x1a, _⟩ := box1 (HB3.on (Gw.alloc w1 (.cells #[.int .i64 0, .bool false] 100)))
    clear L0 P0 G1 HB0
    go_cut [8, 9] (fun s8 s9 wx => ∃ b7, s8 = .pointer (some ⟨b7, 0, none⟩) ∧ s9 = .bool o.isSome ∧ Hid (Gw w1 wx))
    case first =>
      go_region_law (fail)
      all_goals (
        go_wp2_with fail
        go_meet
        exact ⟨_, rfl, rfl, (Gw.alloc w1 _).drew⟩)
    case rest =>
      obtain ⟨b7, rfl, rfl, GX⟩ := hcut
      have HB4 := HB3.on GX.out
      have gx := Lib.hid (g1.trans GX.out)
      obtain ⟨k0, q0⟩ := box0 HB4
      obtain ⟨k1, q1⟩ := box1 HB4
      have c2 := C0 _ gx.out
      have ln2 := LN _ gx.out
      clear l1 l1a c1 c1a x0 x1 x0a x1a GX HB3
      cases o with
      | some i =>
        go_wp2
        go_ret
        exact ⟨rfl, gx.out⟩
      | none =>
        cases dir with
        | true =>
          by_cases e1 : p.1 = []
          · simp only [e1, decide_true, Bool.not_true] at D0
            by_cases e8 : 8 ≤ n
            · have e8' : (8 : Int) ≤ n := by omega
              have HE := Lib.hid e1
              clear e1
              go_wp2_with (go_at_call 86; refine (D0 _).mono ?_; rintro e w3 ⟨rfl, G3⟩; have c3 := C0 _ (gx.out.trans G3); have ln3 := LN _ (gx.out.trans G3))
              go_ret
              exact ⟨by simp only [HE.out, e8, ne_eq, not_true_eq_false, and_false, if_false, if_true]; rfl, gx.out.trans G3⟩
            · have e8' : decide ((8 : Int) ≤ n) = false := decide_eq_false (by omega)
              have HE := Lib.hid e1
              have H8 := Lib.hid e8
              clear e1 e8
              go_wp2_with (go_at_call 86; refine (D0 _).mono ?_; rintro e w3 ⟨rfl, G3⟩; have c3 := C0 _ (gx.out.trans G3); have ln3 := LN _ (gx.out.trans G3))
              go_ret
              exact ⟨by simp only [HE.out, H8.out, ne_eq, not_true_eq_false, and_false, if_false]; rfl, gx.out.trans G3⟩
          · simp only [e1, decide_false, Bool.not_false] at D0
            have HE := Lib.hid e1
            clear e1
            go_wp2_with (go_at_call 86; refine (D0 _).mono ?_; rintro e w3 ⟨rfl, G3⟩)
            go_ret
            exact ⟨by simp only [HE.out, ne_eq, not_false_eq_true, and_true, if_true]; rfl, gx.out.trans G3⟩
        | false =>
          by_cases e8 : 8 ≤ n
          · have e8' : (8 : Int) ≤ n := by omega
            go_wp2
            go_ret
            exact ⟨by simp only [e8, Bool.false_eq_true, false_and, if_false, if_true]; rfl, gx.out⟩
          · have e8' : decide ((8 : Int) ≤ n) = false := decide_eq_false (by omega)
            have H8 := Lib.hid e8
            clear e8
            go_wp2
            go_ret
            exact ⟨by simp only [H8.out, Bool.false_eq_true, false_and, if_false]; rfl, gx.out⟩
  · rw [if_neg e0]
    have e1 : ((plI s.l p) == 0) = false := beq_false_of_ne e0
    generalize plI s.l p = r at P0 e0 e1 ⊢
    go_enter Try.func54, Try.ntmps54
    go_wp2_with (go_at_call 85; with_reducible refine (P0 _ G0).mono ?_; rintro e w1 ⟨rfl, G1⟩)
    go_ret
    exact ⟨rfl, G0.trans G1⟩
set_option maxHeartbeats 2000000 in
theorem mayDrop_any {W : World} {g : Nat} {m : Option Nat} {s : St} (h : MT W g m s) (ok : Ok s.l) (hl8 : s.l.length ≤ 8) (p : Pr) (hp : Pk p) (dir : Bool) : Calls Try.prog 55 #[.pointer (some ⟨g, 0, none⟩), tV p, .bool dir] W fun e W' => e = .returned (.int .u16 (dpI s.l p dir)) ∧ Gw W W' := by
  have hn : ∀ b w, (Op.unary .not (.bool b)).run Try.prog w = .ok (.bool (!b)) w := fun _ _ => rfl
  have F0 : ∀ w, Gw W w → Calls Try.prog 57 #[.pointer (some ⟨g, 0, none⟩), tV p] w fun e W' => e = .returned (fnV (fnI s.l p)) ∧ Gw w W' := fun w G => tfind_any (h.on G) ok p hp
  have M0 : Hid ((fnI s.l p).2.2 = 0 → ∀ w, Gw W w → Calls Try.prog 58 #[.pointer (some ⟨g, 0, none⟩), .agg #[.string (bs p.1), .string (bs p.2)]] w fun e W' => e = .returned (.int .i64 (mnI s.l p)) ∧ Gw w W') := fun hz w G => tmany_any (h.on G) ok hl8 (fnI_ne hz) p hp
  have HB0 := Has.new W 98 #[.string (bs p.1), .string (bs p.2)]
  have G0 : Gw W (W.alloc (.cells #[.string (bs p.1), .string (bs p.2)] 98)) := Gw.alloc _ _
  unfold dpI
  clear h ok hl8
  generalize fnI s.l p = f at F0 M0 ⊢
  generalize mnI s.l p = mc at M0 ⊢
  obtain ⟨n, d, no⟩ := f
  simp only at M0 ⊢
  by_cases e0 : no = 0
  · have M1 := M0.out e0
    subst e0
    clear M0
    rw [if_pos rfl]
    go_enter Try.func55, Try.ntmps55
    go_upto_region 2 with (go_at_call 57; with_reducible refine (F0 _ G0).mono ?_; rintro e w1 ⟨rfl, G1⟩)
    have g1 := G0.trans G1
    have g1a := g1.trans (Gw.alloc w1 (.cells #[.int .i64 n, .bool d] 100))
    have HB3 := (HB0.on G1).on (Gw.alloc w1 (.cells #[.int .i64 n, .bool d] 100))
    obtain ⟨x0, _⟩ := box0 HB3
    obtain ⟨x1, _⟩ := box1 HB3
    clear F0 HB0 HB3
    by_cases em : 0 < mc
    · have em' : (0 : Int) < mc := by omega
      cases d <;> cases dir <;> (
        go_wp2_with (go_at_call 58; with_reducible refine (M1 _ g1a).mono ?_; rintro e w3 ⟨rfl, G3⟩)
        go_ret
        first | exact ⟨by simp [em], g1a.trans G3⟩ | exact ⟨by simp, g1a⟩)
    · have em' : decide ((0 : Int) < mc) = false := decide_eq_false (by omega)
      have em2 : mc = 0 := by omega
      cases d <;> cases dir <;> (
        go_wp2_with (go_at_call 58; with_reducible refine (M1 _ g1a).mono ?_; rintro e w3 ⟨rfl, G3⟩)
        go_ret
        first | exact ⟨by simp [em], g1a.trans G3⟩ | exact ⟨by simp, g1a⟩)
  · rw [if_neg e0]
    have e1 : (no == 0) = false := beq_false_of_ne e0
    clear M0
    go_enter Try.func55, Try.ntmps55
    go_wp2_with (go_at_call 57; with_reducible refine (F0 _ G0).mono ?_; rintro e w1 ⟨rfl, G1⟩)
    go_ret
    exact ⟨rfl, (G0.trans G1).trans (Gw.alloc _ _)⟩
set_option maxHeartbeats 2000000 in
theorem mayMove_any {W : World} {g : Nat} {m : Option Nat} {s : St} (h : MT W g m s) (ok : Ok s.l) (p q : Pr) (hp : Pk p) (hq : Pk q) : Calls Try.prog 56 #[.pointer (some ⟨g, 0, none⟩), tV p, tV q] W fun e W' => e = .returned (.int .u16 (mvI s.l p q)) ∧ Gw W W' := by
  have hn : ∀ b w, (Op.unary .not (.bool b)).run Try.prog w = .ok (.bool (!b)) w := fun _ _ => rfl
  have F0 : ∀ w, Gw W w → Calls Try.prog 57 #[.pointer (some ⟨g, 0, none⟩), tV p] w fun e W' => e = .returned (fnV (fnI s.l p)) ∧ Gw w W' := fun w G => tfind_any (h.on G) ok p hp
  have P0 : ∀ w, Gw W w → Calls Try.prog 85 #[.pointer (some ⟨g, 0, none⟩), .agg #[.string (bs q.1), .string (bs q.2)]] w fun e W' => e = .returned (.int .u16 (plI s.l q)) ∧ Gw w W' := fun w G => place_any (h.on G) ok q hq
  have L0 : ∀ w, Gw W w → (Instr.lookup 87 (.map m) (.agg #[.string (bs q.1), .string (bs q.2)]) false).run Try.prog w = .ok (entV (lkN (nlook s.l q)) (lkD (nlook s.l q))) w := fun w G => (h.on G).look1 ok hq
  have C0 : ∀ w, Gw W w → w.cell? ⟨g, 0, none⟩ = some (.map m) := fun w G => (h.hd.on G).cell 0
  have HB0 := (Has.new W 98 #[.string (bs p.1), .string (bs p.2)]).on (Gw.alloc _ (.cells #[.string (bs q.1), .string (bs q.2)] 98))
  have HB1 := Has.new (W.alloc (.cells #[.string (bs p.1), .string (bs p.2)] 98)) 98 #[.string (bs q.1), .string (bs q.2)]
  rw [size_alloc] at HB1
  have G0 : Gw W ((W.alloc (.cells #[.string (bs p.1), .string (bs p.2)] 98)).alloc (.cells #[.string (bs q.1), .string (bs q.2)] 98)) := (Gw.alloc _ _).trans (Gw.alloc _ _)
  unfold mvI
  clear h ok
  generalize fnI s.l p = f at F0 ⊢
  generalize nlook s.l q = o at L0 ⊢
  generalize plI s.l q = r at P0 ⊢
  obtain ⟨n, d, no⟩ := f
  simp only
  by_cases e0 : no = 0
  · subst e0
    rw [if_pos rfl]
    go_enter Try.func56, Try.ntmps56
    go_upto_region 2 with (go_at_call 57; with_reducible refine (F0 _ G0).mono ?_; rintro e w1 ⟨rfl, G1⟩)
    have g1 := G0.trans G1
    have g1a := g1.trans (Gw.alloc w1 (.cells #[.int .i64 n, .bool d] 100))
    have HB3 := (HB1.on G1).on (Gw.alloc w1 (.cells #[.int .i64 n, .bool d] 100))
    obtain ⟨x0, _⟩ := box0 HB3
    obtain ⟨x1, _⟩ := box1 HB3
    clear F0 HB0 HB1
    cases d with
    | true =>
      go_wp2
      go_ret
      exact ⟨rfl, g1a⟩
    | false =>
      by_cases er : r = 0
      · subst er
        go_upto_region 9 with (go_at_call 85; with_reducible refine (P0 _ g1a).mono ?_; rintro e w3 ⟨rfl, G3⟩)
        have g3 := g1a.trans G3
        have c3 := C0 _ g3
        have l3 := L0 _ g3
        have l3d := L0 _ g3.drew
        have HB4 := HB3.on G3
        obtain ⟨y0, _⟩ := box0 HB4
        obtain ⟨y1, _⟩ := box1 HB4
        clear L0 P0 C0 x0 x1
        have hf := fun w n d => field_dir w n d
        cases hd : lkD o <;> (
          rw [hd] at l3 l3d
          go_region
          all_goals (
            go_wp2
            go_ret
            exact ⟨by simp [hd], g3.drew⟩))
      · have e1 : (r == 0) = false := beq_false_of_ne er
        go_wp2_with (go_at_call 85; with_reducible refine (P0 _ g1a).mono ?_; rintro e w3 ⟨rfl, G3⟩)
        go_ret
        exact ⟨by simp [er], g1a.trans G3⟩
  · rw [if_neg e0]
    have e1 : (no == 0) = false := beq_false_of_ne e0
    go_enter Try.func56, Try.ntmps56
    go_wp2_with (go_at_call 57; with_reducible refine (F0 _ G0).mono ?_; rintro e w1 ⟨rfl, G1⟩)
    go_ret
    exact ⟨rfl, (G0.trans G1).trans (Gw.alloc _ _)⟩
end Go.Proofs.Ytckoapfmfpmdgaa

namespace Go.Proofs.Ytckoapfmfpmdgaa
set_option linter.unusedVariables false
set_option linter.unusedSimpArgs false

theorem spl_zero {p : List UInt8} : spl p = ([], []) ↔ nameB p = false := by
  constructor
  · intro h
    cases hn : nameB p with
    | false => rfl
    | true =>
      rcases name_cases hn with ⟨h1, _, h2, _⟩ | ⟨a, b, c, _, _, _, h1, _, h2, _⟩
      · rw [h2] at h; exact absurd (Prod.mk.inj h).2 (part_ne h1)
      · rw [h2] at h; exact absurd (Prod.mk.inj h).2 (part_ne h1)
  · exact spl_no
/-- The directory of a name is a name of one part. -/
theorem up_name {p : List UInt8} (h : (spl p).1 ≠ []) : nameB (spl p).1 = true ∧ spl (spl p).1 = ([], (spl p).1) := by
  cases hn : nameB p with
  | false => rw [spl_no hn] at h; exact absurd rfl h
  | true =>
    rcases name_cases hn with ⟨h1, _, h2, _⟩ | ⟨a, b, c, h0, _, h1, _, h8, h2, _⟩
    · rw [h2] at h; exact absurd rfl h
    · rw [h2]
      have hb : nameB a = true := by
        rw [name_one (part_flat h1), h1, decide_eq_true (by rw [h0] at h8; simp at h8; omega)]; rfl
      exact ⟨hb, spl_one hb (part_flat h1)⟩
theorem pl_path {l : List Itm} (ok : Ok l) (p : List UInt8) : plI l (spl p) = if nameB p = true then abv l p else 65282 := by
  unfold plI
  cases hn : nameB p with
  | false => rw [if_pos (spl_zero.2 hn)]; rfl
  | true =>
    rw [if_neg (fun h => by rw [spl_zero.1 h] at hn; cases hn), if_pos rfl]
    unfold abv
    by_cases e : (spl p).1 = []
    · rw [if_pos e, if_pos e]
    · rw [if_neg e, if_neg e]
      obtain ⟨h1, h2⟩ := up_name e
      rw [← h2, nlook_look ok h1]
      cases look l (spl p).1 <;> rfl
theorem fn_path {l : List Itm} (ok : Ok l) (p : List UInt8) : fnI l (spl p) = findT l p := by
  unfold fnI findT
  rw [pl_path ok]
  cases hn : nameB p with
  | false => rfl
  | true =>
    rw [if_pos rfl, if_pos rfl, nlook_look ok hn]
    cases look l p <;> rfl
theorem mn_path {l : List Itm} (ok : Ok l) {p : List UInt8} (hn : nameB p = true) : mnI l (spl p) = manyL l p := by
  unfold mnI manyL
  congr 1
  refine List.filter_congr fun i hi => ?_
  show decide _ = _
  rcases name_cases hn with ⟨h1, _, h2, _⟩ | ⟨a, b, c, h0, h47, hpa, hpb, _, h2, _⟩
  · rw [h2]
    by_cases e : (spl i.p).1 = p
    · rw [e]; simp
    · rw [decide_eq_false (fun h => e (Prod.mk.inj h).2), beq_false_of_ne e]
  · rw [h2]
    have e1 : ¬ (([], (spl i.p).1) : Pr) = (a, b) := fun h => by
      have := (Prod.mk.inj h).1
      exact part_ne hpa this.symm
    have e2 : ¬ (spl i.p).1 = p := fun h => by
      by_cases e : (spl i.p).1 = []
      · rw [e] at h; rw [← h] at h0; simp at h0
      · obtain ⟨k1, k2⟩ := up_name e
        rw [h, h2] at k2
        have := (Prod.mk.inj k2).1
        exact part_ne hpa this
    rw [decide_eq_false e1, beq_false_of_ne e2]
/-- Nothing stands in a file. -/
theorem many_file {l : List Itm} (ok : Ok l) {p : List UInt8} {i : Itm} (h : look l p = some i) (hd : i.d = false) (hp : p ≠ []) : manyL l p = 0 := by
  unfold manyL
  rw [List.filter_eq_nil_iff.2 fun j hj hk => ?_]
  · rfl
  · have e : (spl j.p).1 = p := by simpa using hk
    obtain ⟨d, h1, h2, h3⟩ := ok.up j hj (by rw [e]; exact hp)
    have : d = i := ok.same h1 (look_mem h) (by rw [h2, e, look_path h])
    rw [this, hd] at h3
    cases h3
theorem name_ne {p : List UInt8} (h : nameB p = true) : p ≠ [] := fun e => by rw [e] at h; cases h
theorem dp_path {l : List Itm} (ok : Ok l) (nx : Int) (p : List UInt8) (dir : Bool) : dpI l (spl p) dir = (dropT ⟨l, nx⟩ p dir).1 ∧ (dropT ⟨l, nx⟩ p dir).2 = if dpI l (spl p) dir = 0 then ⟨l.eraseP (is p), nx⟩ else ⟨l, nx⟩ := by
  unfold dpI dropT
  rw [fn_path ok]
  by_cases e0 : (findT l p).2.2 = 0
  · obtain ⟨hn, ha, i, hi, hf⟩ := find_zero e0
    simp only [hf, if_true]
    rw [mn_path ok hn]
    cases dir with
    | true =>
      cases hd : i.d with
      | true =>
        by_cases hm : 0 < manyL l p
        · simp [hm]
        · simp [hm]
      | false => simp
    | false =>
      cases hd : i.d with
      | true => simp
      | false => simp [many_file ok hi hd (name_ne hn)]
  · simp only [if_neg e0]
    exact ⟨trivial, trivial⟩
theorem mk_path {l : List Itm} (ok : Ok l) (nx : Int) (p : List UInt8) (dir : Bool) : makeT ⟨l, nx⟩ p dir = if mkI l (spl p) dir = 0 then ((nx, 0), ⟨l ++ [⟨p, dir, nx⟩], nx + 1⟩) else ((-1, mkI l (spl p) dir), ⟨l, nx⟩) := by
  unfold mkI makeT
  rw [pl_path ok]
  cases hn : nameB p with
  | false => simp
  | true =>
    simp only [if_true]
    by_cases ha : abv l p = 0
    · simp only [ha, if_true]
      rw [nlook_look ok hn]
      cases look l p with
      | some i => simp
      | none =>
        by_cases h1 : dir = true ∧ (spl p).1 ≠ []
        · simp [h1]
        · by_cases h2 : 8 ≤ l.length
          · simp only [if_neg h1, if_pos h2]; rfl
          · simp only [if_neg h1, if_neg h2]; rfl
    · simp [ha]
theorem mv_path {l : List Itm} (ok : Ok l) (nx : Int) (a b : List UInt8) : moveT ⟨l, nx⟩ a b =
    if mvI l (spl a) (spl b) = 0 then (if spl a = spl b then ((-1, 0), ⟨l, nx⟩) else (((findT l b).1, 0), ⟨ren a b (l.eraseP (is b)), nx⟩)) else ((-1, mvI l (spl a) (spl b)), ⟨l, nx⟩) := by
  unfold mvI moveT
  rw [fn_path ok, pl_path ok]
  by_cases e0 : (findT l a).2.2 = 0
  · obtain ⟨hn, ha, i, hi, hf⟩ := find_zero e0
    simp only [hf, if_true]
    cases hd : i.d with
    | true => simp
    | false =>
      simp only [Bool.false_eq_true, if_false]
      cases hb : nameB b with
      | false => simp
      | true =>
        simp only [if_true]
        by_cases hab : abv l b = 0
        · simp only [hab, if_true]
          rw [nlook_look ok hb]
          by_cases e : a = b
          · subst e
            simp [hi, lkD, hd]
          · have es : ¬ spl a = spl b := fun h => e (spl_inj hn hb h)
            simp only [if_neg e, if_neg es]
            cases hl : look l b with
            | none =>
              have hfb : findT l b = (-1, false, 65282) := by unfold findT; simp [hb, hab, hl]
              have : l.eraseP (is b) = l := by
                rw [erase_filter ok.nd, not_filter (look_not hl)]
              simp [lkD, hfb, this]
            | some j =>
              have hfb : findT l b = (j.n, j.d, 0) := by unfold findT; simp [hb, hab, hl]
              cases hj : j.d with
              | true => simp [lkD, hj]
              | false => simp [lkD, hj, hfb]
        · simp [hab]
  · simp only [if_neg e0]
/-! ### New -/
def runN : List (List UInt8 × Bool) → St → Option St
  | [], s => some s
  | e :: es, s => if (makeT s e.1 e.2).1.2 = 0 then runN es (makeT s e.1 e.2).2 else none
theorem runN_app : ∀ (a b : List (List UInt8 × Bool)) (s : St), runN (a ++ b) s = (runN a s).bind (runN b)
  | [], b, s => rfl
  | e :: a, b, s => by
    show (if _ then _ else _) = Option.bind (if _ then _ else _) _
    split
    · exact runN_app a b _
    · rfl
theorem make_put (l : List Itm) (k : Nat) (p : List UInt8) (d : Bool) (hl : l.length < 8) : match putT l p d k with
    | none => (makeT ⟨l, k⟩ p d).1.2 ≠ 0
    | some l' => makeT ⟨l, k⟩ p d = (((k : Int), 0), ⟨l', (k : Int) + 1⟩) ∧ l'.length = l.length + 1 := by
  unfold putT makeT abv
  cases hn : nameB p with
  | false => simp
  | true =>
    simp only [if_true]
    cases hk : look l p with
    | some i =>
      simp only
      by_cases e : (spl p).1 = []
      · simp [e]
      · simp only [if_neg e]
        cases look l (spl p).1 with
        | none => simp
        | some j => cases hj : j.d <;> simp [hj]
    | none =>
      by_cases e : (spl p).1 = []
      · simp [e, Nat.not_le.2 hl]
      · simp only [if_neg e]
        cases d with
        | true =>
          simp only [if_true]
          cases look l (spl p).1 with
          | none => simp
          | some j => cases hj : j.d <;> simp [e, hj]
        | false =>
          cases look l (spl p).1 with
          | none => simp
          | some j => cases hj : j.d <;> simp [hj, Nat.not_le.2 hl]
theorem make_eight (l : List Itm) (k : Int) (p : List UInt8) (d : Bool) (hl : 8 ≤ l.length) : (makeT ⟨l, k⟩ p d).1.2 ≠ 0 := by
  unfold makeT
  split
  · split
    · split
      · simp
      · split
        · simp
        · simp [hl]
    · rename_i h; exact h
  · simp
theorem runN_from : ∀ (es : List (List UInt8 × Bool)) (l : List Itm), l.length ≤ 8 → runN es ⟨l, l.length⟩ = if 8 < l.length + es.length then none else (fromT es l.length l).map (fun l' => ⟨l', (l.length + es.length : Nat)⟩)
  | [], l, h => by
    rw [if_neg (by simp; omega)]
    rfl
  | e :: es, l, h => by
    by_cases h8 : 8 ≤ l.length
    · rw [if_pos (by simp; omega)]
      show (if _ then _ else _) = _
      rw [if_neg (make_eight l _ e.1 e.2 h8)]
    · have hm := make_put l l.length e.1 e.2 (by omega)
      show (if _ then _ else _) = _
      rw [fromT]
      cases hp : putT l e.1 e.2 l.length with
      | none =>
        rw [hp] at hm
        rw [if_neg hm]
        simp
      | some l' =>
        rw [hp] at hm
        obtain ⟨h1, h2⟩ := hm
        have ih := runN_from es l' (by omega)
        rw [h1, if_pos rfl]
        rw [h2] at ih
        have e1 : ((l.length : Int) + 1) = ((l.length + 1 : Nat) : Int) := by omega
        have e2 : l.length + 1 + es.length = l.length + (e :: es).length := by simp; omega
        simp only [e1]
        rw [ih, e2]
theorem newT_run (es : List (List UInt8 × Bool)) : newT es = runN es ⟨[], 0⟩ := by
  have := runN_from es [] (by decide)
  simp only [List.length_nil, Nat.zero_add] at this
  rw [show (⟨[], 0⟩ : St) = ⟨[], ((0 : Nat) : Int)⟩ from rfl, this]
  rfl
end Go.Proofs.Ytckoapfmfpmdgaa

namespace Go.Proofs
open Go.Shelf
def Try.laysClone_ren : Go.Shelf.Ren := ⟨fun | 5 => 52 | 7 => 83 | n => n, fun | 23 => 87 | 25 => 98 | 3 => 100 | 4 => 4 | 20 => 20 | n => n, fun | n => n⟩
theorem Try.laysClone : Go.Proofs.SlLaysW.n5 Try.prog Try.laysClone_ren := {
  mixed := by kernel_rfl
  f5 := ⟨Try.f52.name, by decide, Try.func52.trans (congrArg some (by kernel_rfl))⟩
  f7 := Try.func83.trans (congrArg some (by kernel_rfl))
  t4 := Try.underlying4
  a4 := Try.isAgg4
  z4 := Try.sizeOf4
  v4 := Try.zeroValue4
  t20 := Try.underlying20
  a20 := Try.isAgg20
  z20 := Try.sizeOf20
  v20 := Try.zeroValue20
  t23 := Try.underlying87
  a23 := Try.isAgg87
  z23 := Try.sizeOf87
  v23 := Try.zeroValue87 }
end Go.Proofs
