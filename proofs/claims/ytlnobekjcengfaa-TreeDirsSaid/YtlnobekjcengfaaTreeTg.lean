/-
  The program's own tree: many (how many a directory has): a range over the map, whatever its order.
-/
import Derived.Test.YtlnobekjcengfaaTreeTf
namespace Go.Proofs.Ytlnobekjcengfaa
open Go.ChangeShapes Go.WideShapes Go.ChangeAt Go.RowKit Go.Joins
set_option linter.unusedVariables false
set_option linter.unusedSimpArgs false

section
variable {w w' : World} {b r n cnt : Nat} {D : DataW Unit} {left : Lit → Bool}
theorem ranges_has (h : w.ranges Try.prog tK eElem b r n D left cnt) {kl : Lit} (hk : left kl = true) : Maps.has D kl = true := by
  obtain ⟨es, clock, since, seen, c0, hb, F, hs, rfl, hr, hold, rfl, hl1, hl2, hsc, hsk⟩ := h
  obtain ⟨x, hx, rfl⟩ := hl2 kl hk
  obtain ⟨y, hy⟩ := F.reads x hx
  rw [Maps.has_eq]
  exact List.any_eq_true.2 ⟨_, mem_sorted.2 (List.mem_map.2 ⟨x, hx, rfl⟩), WideAt.sameKey_self (by rw [WideElems.rg_of hy]; exact keyedName.key (WideElems.rd_key hy))⟩
theorem ranges_same (h : w.ranges Try.prog tK eElem b r n D left cnt) (e1 : w'.heap[b]? = w.heap[b]?) (e2 : w'.heap[r]? = w.heap[r]?) : w'.ranges Try.prog tK eElem b r n D left cnt := by
  obtain ⟨es, clock, since, seen, c0, hb, F, hs, hD, hr, rest⟩ := h
  exact ⟨es, clock, since, seen, c0, e1.trans hb, F, hs, hD, e2.trans hr, rest⟩
theorem ranges_on (h : w.ranges Try.prog tK eElem b r n D left cnt) (G : Gw w w') : w'.ranges Try.prog tK eElem b r n D left cnt := ranges_same h (G.block _ h.owns.lt) (G.block _ h.lt)
end
theorem wpList_next_tree {ops : Array Oper} {rest : List Oper} {o : Oper} {a : Act} {Q : Exit → Act → World → Prop} (w : World) (hg : o.guard = none) (it : Operand) (hop : o.op = Op.next it false) (b r n : Nat) (D : DataW Unit) (left : Lit → Bool) (cnt : Nat) (l : List Itm) (hM : MpIs D l)
    (hit : a.eval it = .pointer (some ⟨r, 0, none⟩)) (h : w.ranges Try.prog tK eElem b r n D left cnt)
    (hDone : (∀ kl, left kl = false) → wpList Try.prog ops Q rest (a.put o.dst (.tuple #[.bool false])) w)
    (hMore : ∀ (i : Itm) (v : Value) (w' : World) (cnt' : Nat), i ∈ l → left (nkl (spl i.p)) = true → w'.ranges Try.prog tK eElem b r n D (fun z => left z && !z.sameKey (nkl (spl i.p))) cnt' → cnt' < cnt →
      w.grownBy w' (some r) → w'.heap.size = w.heap.size → (Instr.entry (.pointer (some ⟨r, 0, none⟩))).run Try.prog w' = .ok (.tuple #[tV (spl i.p), v]) w' → wpList Try.prog ops Q rest (a.put o.dst (.tuple #[.bool true, tV (spl i.p), v])) w') :
    wpList Try.prog ops Q (o :: rest) a w := by
  refine wpList_plain hg fun K' hK' => ?_
  unfold Oper.wp
  rcases h.next keyedName o.type with ⟨h0, hl, hrun⟩ | ⟨key, v, kl, y, w', cnt', hkey, hlk, hv, hat, hrun, hrg, hlt, hgr, hsz, hen⟩
  · simp [execOp, hop, hit, hrun, Result.andThen]
    exact hK' _ _ (hDone hl)
  · obtain ⟨i, hi, rfl⟩ := hM.only (ranges_has h hlk)
    obtain rfl : key = tV (spl i.p) := keyedName.inj hkey (key_of (pk_spl i.p))
    simp [execOp, hop, hit, hrun, Result.andThen]
    exact hK' _ _ (hMore i v w' cnt' hi hlk hrg hlt hgr hsz hen)
/-! ### Counting -/
theorem filter_one {l : List Itm} (hn : l.Nodup) {i : Itm} (hi : i ∈ l) {A A' : Itm → Bool} (h : ∀ j ∈ l, j ≠ i → A' j = A j) (h0 : A i = false) : (l.filter A').length = (l.filter A).length + (if A' i = true then 1 else 0) := by
  induction l with
  | nil => cases hi
  | cons j l ih =>
    rw [List.nodup_cons] at hn
    by_cases e : j = i
    · subst e
      have : l.filter A' = l.filter A := List.filter_congr fun k hk => h k (List.mem_cons_of_mem _ hk) (fun q => hn.1 (q ▸ hk))
      rw [List.filter_cons, List.filter_cons, this, h0]
      cases A' j <;> simp
    · have hi' : i ∈ l := by
        rcases List.mem_cons.1 hi with q | q
        · exact absurd q.symm e
        · exact q
      rw [List.filter_cons, List.filter_cons, h j (List.mem_cons_self ..) e]
      have := ih hn.2 hi' (fun k hk => h k (List.mem_cons_of_mem _ hk))
      cases A j
      · simpa using this
      · simp [this]; omega
/-- Does this one stand in p? -/
def inB (p : Pr) (i : Itm) : Bool := decide ((([], (spl i.p).1) : Pr) = p)
def mnI (l : List Itm) (p : Pr) : Nat := (l.filter (inB p)).length
/-- Those that have come. -/
def cmI (l : List Itm) (p : Pr) (left : Lit → Bool) : Nat := (l.filter (fun i => inB p i && !left (nkl (spl i.p)))).length
theorem cm_all {l : List Itm} {p : Pr} {left : Lit → Bool} (h : ∀ k, left k = false) : cmI l p left = mnI l p := by
  unfold cmI mnI
  congr 1
  exact List.filter_congr fun i _ => by rw [h]; simp
theorem cm_none {l : List Itm} {p : Pr} {left : Lit → Bool} (h : ∀ i ∈ l, left (nkl (spl i.p)) = true) : cmI l p left = 0 := by
  unfold cmI
  rw [List.filter_eq_nil_iff.2 fun i hi => by rw [h i hi]; simp]
  rfl
theorem cm_step {l : List Itm} (ok : Ok l) {p : Pr} {left : Lit → Bool} {i : Itm} (hi : i ∈ l) (hl : left (nkl (spl i.p)) = true) :
    cmI l p (fun z => left z && !z.sameKey (nkl (spl i.p))) = cmI l p left + (if inB p i = true then 1 else 0) := by
  have hn : l.Nodup := (List.pairwise_map.1 ok.nd).imp fun h e => h (congrArg _ e)
  unfold cmI
  have := filter_one hn hi (A := fun j => inB p j && !left (nkl (spl j.p))) (A' := fun j => inB p j && !(left (nkl (spl j.p)) && !(nkl (spl j.p)).sameKey (nkl (spl i.p)))) (fun j hj hne => by
    have : ¬ nkl (spl j.p) = nkl (spl i.p) := fun e => hne (ok.same hj hi (spl_inj (ok.nm j hj) (ok.nm i hi) (nkl_inj (pk_spl _) (pk_spl _) e)))
    simp only [Maps.sameKey_ne this, Bool.not_false, Bool.and_true]) (by simp [hl])
  rw [this]
  simp only [WideAt.sameKey_self (nkl_key (pk_spl i.p)), Bool.not_true, Bool.and_false, Bool.not_false, Bool.and_true]
theorem cm_le (l : List Itm) (p : Pr) (left : Lit → Bool) : cmI l p left ≤ l.length := List.length_filter_le _ _
set_option maxRecDepth 100000 in
set_option maxHeartbeats 2000000 in
theorem tmany_any {W : World} {g : Nat} {m : Option Nat} {s : St} (h : MT W g m s) (ok : Ok s.l) (hl8 : s.l.length ≤ 8) (hne : s.l ≠ []) (p : Pr) (hp : Pk p) : Calls Try.prog 35 #[.pointer (some ⟨g, 0, none⟩), tV p] W fun e W' => e = .returned (.int .i64 (mnI s.l p)) ∧ Gw W W' := by
  rcases h.mp with ⟨_, hn⟩ | ⟨b, D, rfl, ho, hM⟩
  · exact absurd hn hne
  have G0 : Hid (Gw W (W.alloc (.cells #[.string (bs p.1), .string (bs p.2)] 75))) := Gw.alloc _ _
  have HB0 := Lib.hid (Has.new W 75 #[.string (bs p.1), .string (bs p.2)])
  have c0 : (W.alloc (.cells #[.string (bs p.1), .string (bs p.2)] 75)).cell? ⟨g, 0, none⟩ = some (.map (some b)) := (h.hd.on G0.out).cell 0
  have hown1 : Hid ((W.alloc (.cells #[.string (bs p.1), .string (bs p.2)] 75)).ownsMap Try.prog tK eElem b s.l.length D) := mown_same ho (G0.out.block _ ho.lt)
  have hbl := Lib.hid ho.lt
  have e1 : (W.alloc (.cells #[.string (bs p.1), .string (bs p.2)] 75)).heap.size = W.heap.size + 1 := size_alloc _ _
  have HOK := Lib.hid ok
  have HM := Lib.hid hM
  have HL := Lib.hid hl8
  have A0 := fun (q : Pr) w => tabove_any q w
  clear h ok hl8 hne ho hM
  generalize s.l = l at *
  go_enter Try.func35, Try.ntmps35
  go_wp2_with (first
    | (at_range; refine wpList_range_own _ rfl _ 64 rfl tK tE keyedName Try.underlying64 eElem b l.length D rfl hown1.out ?_; intro w0 hrg0 hg0 hs0)
    | go_in)
  go_frame
  rw [e1] at hrg0 hs0 ⊢
  have HG0 : Hid (Gw (W.alloc (.cells #[.string (bs p.1), .string (bs p.2)] 75)) w0) := (Gw.refl _).grown hg0 (fun k hk => by cases hk)
  have HE1 := Lib.hid e1
  clear hg0 hs0 e1 c0
  generalize (W.alloc (.cells #[.string (bs p.1), .string (bs p.2)] 75)) = W1 at *
  go_loopw [5] (fun c wr => ∃ (left : Lit → Bool) (cnt : Nat), Hid (wr.ranges Try.prog tK eElem b (W.heap.size + 1) l.length D left cnt) ∧ c = .int .i64 (cmI l p left) ∧ Hid (Gw W1 wr)) (fun _ wr => wr.rangeLeft b (W.heap.size + 1))
  case atStart =>
    refine ⟨_, _, hrg0, ?_, HG0.out⟩
    rw [cm_none (fun i hi => ?_)]
    · rfl
    · obtain ⟨es, rfl, hp2⟩ := HM.out
      rw [Maps.has_eq]
      exact List.any_eq_true.2 ⟨_, hp2.mem_iff.2 (List.mem_map.2 ⟨i, hi, rfl⟩), WideAt.sameKey_self (nkl_key (pk_spl i.p))⟩
  case round =>
    obtain ⟨left, cnt, hrg, rfl, HG⟩ := hrel
    have hle := Lib.hid (Nat.le_trans (cm_le l p left) HL.out)
    obtain ⟨k, hk⟩ : ∃ k, k = cmI l p left := ⟨_, rfl⟩
    rw [← hk] at hle ⊢
    have HK := Lib.hid hk
    clear hk
    go_wp2_with (first
      | (at_next; refine wpList_next_tree _ rfl _ rfl b (W.heap.size + 1) _ D left cnt l HM.out rfl hrg.out ?_ ?_)
      | go_in)
    · intro hl0
      have HE := Lib.hid (HK.out.trans (cm_all hl0))
      clear hl0
      go_wp2
      go_ret
      exact ⟨by rw [← HE.out]; rfl, G0.out.trans HG.out⟩
    · intro i v w1 cnt1 hi hlk hrg1 hlt hg1 hs1 hen
      have HI := Lib.hid hi
      have HLK := Lib.hid hlk
      have HR1 := Lib.hid hrg1
      have HLT := Lib.hid hlt
      have HG1 : Hid (Gw W1 w1) := HG.out.grown hg1 (fun k hk => by cases hk; exact Nat.le_of_eq HE1.out)
      have HST := Lib.hid (cm_step HOK.out (p := p) HI.out HLK.out)
      have HB1 := HB0.out.on HG1.out
      obtain ⟨z0, _⟩ := box0 HB1
      obtain ⟨z1, _⟩ := box1 HB1
      clear hi hlk hrg1 hlt hg1 hs1 HB1
      have hin : inB p i = decide ((([], (spl i.p).1) : Pr) = p) := rfl
      generalize inB p i = q at hin HST
      generalize ha : spl i.p = a at *
      obtain ⟨a1, a2⟩ := a
      obtain ⟨p1, p2⟩ := p
      simp only at z0 z1 hin
      go_upto_region 5 with fail
      have y0 := (Gw.alloc w1 (.cells #[.string (bs a1), .string (bs a2)] 75)).cell z0
      have y1 := (Gw.alloc w1 (.cells #[.string (bs a1), .string (bs a2)] 75)).cell z1
      have t1 : ((bs ([] : List UInt8)).toList == (bs p1).toList) = decide (p1 = []) := by rw [bs_list, bs_list]; cases p1 <;> rfl
      have t2 : ((bs a1).toList == (bs p2).toList) = decide (a1 = p2) := by rw [bs_list, bs_list]; by_cases e : a1 = p2 <;> simp [e]
      have HQ : Hid (q = (decide (p1 = []) && decide (a1 = p2))) := by
        have : (([], a1) : Pr) = (p1, p2) ↔ (p1 = [] ∧ a1 = p2) := ⟨fun h => ⟨(Prod.mk.inj h).1.symm, (Prod.mk.inj h).2⟩, fun ⟨h1, h2⟩ => by rw [h1, h2]⟩
        rw [hin, ← Bool.decide_and]
        exact decide_eq_decide.2 this
      clear hin
      generalize decide (p1 = []) = q1 at t1 HQ
      generalize decide (a1 = p2) = q2 at t2 HQ
      have GA1 := Gw.alloc w1 (.cells #[.string (bs a1), .string (bs a2)] 75)
      have A1 : ∀ w, Calls Try.prog 43 #[.agg #[.string (bs a1), .string (bs a2)]] w fun e W' => e = .returned (tV ([], a1)) ∧ Gw w W' := fun w => A0 (a1, a2) w
      go_cut [19] (fun sx wx => sx = .bool q ∧ Hid (Gw w1 wx))
      case first =>
        cases q1 <;> cases q2 <;> (
          go_region_law (first
            | (rw [if_pos (by rfl)]; go_simp; go_at_call 43; with_reducible refine (A1 _).mono ?_; rintro e w2 ⟨rfl, G2⟩; have x0 := ((GA1.drew).trans G2).cell z0; have x1 := ((GA1.drew).trans G2).cell z1)
            | fail)
          all_goals (
            go_wp2_with fail
            go_meet
            exact ⟨by rw [HQ.out]; rfl, GA1.drew.trans G2⟩))
      case rest =>
        obtain ⟨rfl, GX⟩ := hcut
        have HX := Lib.hid (HG1.out.trans GX.out)
        have HRX := Lib.hid (ranges_on HR1.out GX.out)
        have hme : Hid (wc.rangeLeft b (W.heap.size + 1) < wr.rangeLeft b (W.heap.size + 1)) := by
          show _ < _
          rw [HRX.out.left_eq, hrg.out.left_eq]; exact HLT.out
        clear t1 t2 y0 y1 z0 z1
        have h62 : (k : Int) + 1 ≤ 9223372036854775807 := by have := hle.out; omega
        cases q with
        | false =>
          go_wp2
          go_roundw
          case rel => exact ⟨_, _, HRX.out, by rw [HST.out, ← HK.out]; rfl, HX.out⟩
          case measure => exact hme.out
        | true =>
          go_wp2
          go_roundw
          case rel => exact ⟨_, _, HRX.out, by rw [HST.out, ← HK.out]; go_num, HX.out⟩
          case measure => exact hme.out
end Go.Proofs.Ytlnobekjcengfaa
