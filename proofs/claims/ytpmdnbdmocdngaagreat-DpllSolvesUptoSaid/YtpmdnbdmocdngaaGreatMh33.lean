/-
  Parts of the proof, joined: DpllGd, DpllGe, DpllSu.
-/
import Derived.Test.YtpmdnbdmocdngaaGreatMh32
import Derived.Laws.IdiomCopy
import Derived.BigRegion
import Derived.Test.YtpmdnbdmocdngaaGreatMh29

namespace Go.Proofs.YtpmdnbdmocdngaaGreat
open Go.ChangeShapes Go.WideShapes Go.ChangeAt Go.RowKit
set_option linter.unusedVariables false
set_option linter.unusedSimpArgs false

theorem bel_alloc (w : World) (o : Obj) : Below w.heap.size w (w.alloc o) := (Below.refl _ _).alloc (Nat.le_refl _) o
theorem bel_on {w w' w'' : World} (h : Below w.heap.size w w') (k : Below w'.heap.size w' w'') : Below w.heap.size w w'' := h.trans (k.mono h.size)
theorem zc_cl : ∀ n : Nat, (Builtin.zeroCells #[nilS, .int .i64 0, .int .i64 0] n).toList = clCells (zr n)
  | 0 => by simp [Builtin.zeroCells, zr, clCells]
  | n + 1 => by
    have ih := zc_cl n
    unfold Builtin.zeroCells at ih ⊢
    rw [Array.toList_map, Array.toList_range] at ih ⊢
    have e : (n + 1) * (#[nilS, Value.int .i64 0, Value.int .i64 0] : Array Value).size = n * (#[nilS, Value.int .i64 0, Value.int .i64 0] : Array Value).size + 1 + 1 + 1 := by
      show (n + 1) * 3 = n * 3 + 1 + 1 + 1; omega
    rw [e, List.range_succ, List.range_succ, List.range_succ, List.map_append, List.map_append, List.map_append, ih]
    have e2 : zr (n + 1) = zr n ++ [(nilS, ⟨[], 0, 0⟩)] := List.replicate_succ'
    rw [e2, clCells_app, List.append_assoc, List.append_assoc]
    congr 1
    have m0 : n * (#[nilS, Value.int .i64 0, Value.int .i64 0] : Array Value).size % (#[nilS, Value.int .i64 0, Value.int .i64 0] : Array Value).size = 0 := by show n * 3 % 3 = 0; omega
    have m1 : (n * (#[nilS, Value.int .i64 0, Value.int .i64 0] : Array Value).size + 1) % (#[nilS, Value.int .i64 0, Value.int .i64 0] : Array Value).size = 1 := by show (n * 3 + 1) % 3 = 1; omega
    have m2 : (n * (#[nilS, Value.int .i64 0, Value.int .i64 0] : Array Value).size + 1 + 1) % (#[nilS, Value.int .i64 0, Value.int .i64 0] : Array Value).size = 2 := by show (n * 3 + 1 + 1) % 3 = 2; omega
    simp only [List.map_cons, List.map_nil, m0, m1, m2]
    rfl
theorem run_clear_cl (w : World) (ty : TypeId) (b o n c : Nat) (hn : 0 < n) (hc : ∀ j, j < n * 3 → (w.cell? ⟨b, o + j, none⟩).isSome = true) (hf : ∀ j, w.frozen? ⟨b, j, none⟩ = false) :
    (Builtin.clear_ #[134] ty #[.slice (some ⟨b, o, none⟩) n c]).run Tryz.prog w = .ok (.tuple #[]) (w.setCells b o (clCells (zr n))) := by
  have hv : ∀ w, (zeroValue 206).run Tryz.prog w = .ok (.agg #[nilS, .int .i64 0, .int .i64 0]) w := fun w => by kernel_rfl
  have hl : (clCells (zr n)).length = n * 3 := by rw [clCells_len]; simp [zr]
  have hst := run_storeCells_cells (P := Tryz.prog) b o (clCells (zr n)) 0 w (by rw [hl]; simpa using hc) (fun j _ => hf _) (fun v hv' => by
    rw [clCells_zr] at hv'
    obtain ⟨l, h1, h2⟩ := List.mem_flatten.1 hv'
    rw [List.eq_of_mem_replicate h1] at h2
    simp only [List.mem_cons, List.not_mem_nil, or_false] at h2
    rcases h2 with rfl | rfl | rfl <;> rfl)
  simp only [Nat.add_zero] at hst
  obtain ⟨m, rfl⟩ : ∃ m, n = m + 1 := ⟨n - 1, by omega⟩
  have hz := zc_cl (m + 1)
  have hcs : (Value.agg #[nilS, .int .i64 0, .int .i64 0]).cells = #[nilS, .int .i64 0, .int .i64 0] := rfl
  simp [Builtin.clear_, run_underlying Tryz.underlying134, hv, hcs, hz, hst]
def GdPost (τ : Nat → Nat) (w : World) (g cap : Nat) (rows : List (Value × Cl)) (e : Ending) (w' : World) : Prop :=
  ∃ Z, e = .returned (.slice (some ⟨g, 0, none⟩) (kr rows).length cap) ∧ RowN τ 2 w' 206 3 (.slice (some ⟨g, 0, none⟩) rows.length cap) rows.length (clCells (kr rows ++ Z)) ∧ Stk g w w'
section
variable {τ : Nat → Nat} {w wr : World} {g cap j : Nat} {rows N : List (Value × Cl)}
theorem RowN.crow (h : RowN τ 2 w 206 3 (.slice (some ⟨g, 0, none⟩) rows.length cap) rows.length (clCells rows)) (hl : ∀ a ∈ rows, LitV a.1) : Crow w g rows.length (Pk rows) := fun k hk => by
  obtain ⟨a, ha⟩ : ∃ a, rows[k]? = some a := ⟨_, List.getElem?_eq_getElem hk⟩
  have hc : ∀ q u', q < 3 → ([a.1, .int .i64 a.2.sp, .int .i64 a.2.fr] : List Value)[q]? = some u' → w.cell? ⟨g, k * 3 + q, none⟩ = some u' := fun q u' hq hu' =>
    h.cell ((flat_at cl_len _ k q _ ha hq).trans hu')
  refine ⟨a.1, a.2.sp, a.2.fr, hc 0 _ (by decide) rfl, hc 1 _ (by decide) rfl, hc 2 _ (by decide) rfl, ?_⟩
  rw [rows_at ha]
  exact hl a (List.mem_of_getElem? ha)
theorem kr_before {k : Nat} (hk : k ≤ rows.length) (h : ∀ i, i < k → Pk rows i = false) : kr (rows.take k) = rows.take k := kr_none fun a ha => by
  obtain ⟨i, hi⟩ := List.getElem?_of_mem ha
  have hil := (List.getElem?_eq_some_iff.1 hi).1
  rw [List.length_take] at hil
  rw [List.getElem?_take_of_lt (by omega)] at hi
  rw [← rows_at hi]; exact h i (by omega)
set_option maxHeartbeats 3200000 in
set_option maxRecDepth 4000 in
theorem gdelete_any (h : RowN τ 2 w 206 3 (.slice (some ⟨g, 0, none⟩) rows.length cap) rows.length (clCells rows)) (hl : ∀ a ∈ rows, LitV a.1) (hm : rows.length < 2147483648) (h0 : 0 < rows.length) (hcap : rows.length ≤ cap ∧ cap ≤ 9223372036854775807) :
    Calls Tryz.prog 176 #[.slice (some ⟨g, 0, none⟩) rows.length cap, .func (.func 177) #[] #[]] w (GdPost τ w g cap rows) := by
  have K := Lib.hid (goneindex_any (capa := cap) (h.crow hl) hm)
  have HL := Lib.hid hl
  have HR := Lib.hid h
  have KG : Hid (∀ (W : World) (v : Value) (b : Bool) (s f : Int), ((v = .slice none 0 0 ∧ b = true) ∨ ∃ a n c, v = .slice (some a) n c ∧ b = false) → Calls Tryz.prog 177 #[.agg #[v, .int .i64 s, .int .i64 f]] W fun e w' => e = .returned (.bool b) ∧ Below W.heap.size W w') := Lib.hid (fun W v b s f h => gone_any h)
  obtain ⟨hc1, hc2⟩ := hcap
  clear h hl
  go_enter Tryz.func176, Tryz.ntmps176
  go_wp2_with fail
  (with_reducible refine K.out.mono ?_)
  rintro e w1 ⟨b1, ⟨rfl, hno⟩ | ⟨j0, hj0, rfl, hn0, hno⟩⟩
  · have HE : Hid (GdPost τ w g cap rows (.returned (.slice (some ⟨g, 0, none⟩) rows.length cap)) w1) := by
      have e : kr rows = rows := by have := kr_before (Nat.le_refl _) hno; rwa [List.take_length] at this
      exact ⟨[], by rw [e], by rw [e, List.append_nil]; exact HR.out.below b1, Stk.of_below b1⟩
    clear b1 hno K HR KG
    go_wp2_with fail
    go_ret
    exact HE.out
  · obtain ⟨a0, ha0⟩ : ∃ a, rows[j0]? = some a := ⟨_, List.getElem?_eq_getElem hj0⟩
    have ek : kr (rows.take (j0 + 1)) = rows.take j0 := by
      rw [kr_snoc ha0, if_pos (by rw [← rows_at ha0]; exact hn0), List.append_nil, kr_before (by omega) hno]
    have el : (rows.take j0).length = j0 := by rw [List.length_take]; omega
    have R1 : Hid (GdR τ w g cap rows (j0 + 1) rows w1) := ⟨HR.out.below b1, Stk.of_below b1, rfl, by rw [ek, el], rfl⟩
    have EK : Hid ((kr (rows.take (j0 + 1))).length = j0) := by rw [ek, el]; exact Lib.hid rfl
    have kn : ((j0 : Int) == -1) = false := beq_eq_false_iff_ne.2 (by omega)
    have kn2 : ¬ (j0 : Int) = -1 := by omega
    clear b1 hn0 hno K HR ha0 ek el
    go_wp2_with fail
    go_loopw [5, 6] (fun iv jv wr => ∃ (j i : Nat) (N : List (Value × Cl)), j ≤ rows.length ∧ jv = .int .i64 j ∧ iv = .int .i64 i ∧ i < j ∧ Hid ((kr (rows.take j)).length = i) ∧ Hid (GdR τ w g cap rows j N wr)) (fun _ jv _ => rows.length - (intOf jv).toNat)
    case atStart => exact ⟨j0 + 1, j0, rows, by omega, by go_num, rfl, by omega, EK, R1⟩
    case round =>
      obtain ⟨j, i, N, hj, rfl, rfl, hij, EI, R⟩ := hrel
      clear R1 EK
      by_cases hlt : j < rows.length
      · obtain ⟨a, ha⟩ : ∃ a, rows[j]? = some a := ⟨_, List.getElem?_eq_getElem hlt⟩
        obtain ⟨x1, x2, x3⟩ := R.out.cells ((R.out.get (Nat.le_refl _)).trans ha)
        obtain ⟨b, hb⟩ : ∃ b, N[i]? = some b := ⟨_, List.getElem?_eq_getElem (by rw [R.out.len]; omega)⟩
        have HB := Lib.hid (R.out.cells hb)
        have HFZ := Lib.hid (R.out.free (by omega))
        have HA := Lib.hid ha
        have KG2 := Lib.hid (fun W => KG.out W a.1 (noLits a.1) a.2.sp a.2.fr (HL.out a (List.mem_of_getElem? ha)))
        have zg := lt_of_cell x1
        have b1 : (0 : Int) ≤ (j : Int) := by omega
        have b2 : (j : Int) < (rows.length : Int) := by omega
        have b3 : (i : Int) < (rows.length : Int) := by omega
        have b4 : (0 : Int) ≤ (i : Int) := by omega
        have hva : ∃ X n c, a.1 = .slice X n c := by
          rcases HL.out a (List.mem_of_getElem? ha) with ⟨e, _⟩ | ⟨x, n, c, e, _⟩
          · exact ⟨_, _, _, e⟩
          · exact ⟨_, _, _, e⟩
        obtain ⟨X, n1, c1, hva⟩ := hva
        have PUT := Lib.hid (fun (hn : noLits a.1 = false) (W : World) (b : Below wr.heap.size wr W) => (R.out.below b).put HA.out hn EI.out (by omega))
        have SKP := Lib.hid (fun (hn : noLits a.1 = true) (W : World) (b : Below wr.heap.size wr W) => (R.out.below b).skip HA.out hn)
        have KS := Lib.hid (kr_snoc HA.out)
        obtain ⟨⟨va, ⟨la, sa, fa⟩⟩, e⟩ : ∃ q, q = a := ⟨_, rfl⟩
        subst e
        have hva : va = .slice X n1 c1 := hva
        subst hva
        clear ha hb
        cases hP : noLits (.slice X n1 c1) with
        | true =>
          have KG3 : Hid (∀ W : World, Calls Tryz.prog 177 #[.agg #[.slice X n1 c1, .int .i64 sa, .int .i64 fa]] W fun e w' => e = .returned (.bool true) ∧ Below W.heap.size W w') := Lib.hid (fun W => by have := KG2.out W; rwa [show noLits ((.slice X n1 c1, (⟨la, sa, fa⟩ : Cl)) : Value × Cl).1 = true from hP] at this)
          have HP := Lib.hid hP
          clear hP KG2 HB HFZ PUT
          go_wp2_with fail
          (with_reducible refine (KG3.out _).mono ?_)
          rintro e w3 ⟨rfl, b3⟩
          have HW := Lib.hid (SKP.out HP.out w3 (bel_on (bel_alloc wr _) b3))
          have HKS : Hid ((kr (rows.take (j + 1))).length = i) := Lib.hid (by rw [KS.out, if_pos HP.out, List.append_nil]; exact EI.out)
          clear b3 x1 x2 x3
          go_wp2_with fail
          go_roundw
          case rel => exact ⟨j + 1, i, N, by omega, by go_num, rfl, by omega, HKS, HW⟩
          case measure => simp [intOf]; omega
        | false =>
          have KG3 : Hid (∀ W : World, Calls Tryz.prog 177 #[.agg #[.slice X n1 c1, .int .i64 sa, .int .i64 fa]] W fun e w' => e = .returned (.bool false) ∧ Below W.heap.size W w') := Lib.hid (fun W => by have := KG2.out W; rwa [show noLits ((.slice X n1 c1, (⟨la, sa, fa⟩ : Cl)) : Value × Cl).1 = false from hP] at this)
          have HP := Lib.hid hP
          clear hP KG2 SKP
          go_wp2_with fail
          (with_reducible refine (KG3.out _).mono ?_)
          rintro e w3 ⟨rfl, b3⟩
          have b3a := bel_on (bel_alloc wr (.cells #[.slice X n1 c1, .int .i64 sa, .int .i64 fa] 206)) b3
          have HW := Lib.hid (PUT.out HP.out w3 b3a)
          have HKS : Hid ((kr (rows.take (j + 1))).length = i + 1) := Lib.hid (by rw [KS.out, if_neg (by rw [HP.out]; decide), List.length_append, EI.out]; rfl)
          have y0 : w3.heap[wr.heap.size]? = some (.cells #[.slice X n1 c1, .int .i64 sa, .int .i64 fa] 206 (0, 0)) := (b3.block _ (by simp)).trans (new_heap wr _)
          have y1 : w3.cell? ⟨wr.heap.size, 0, none⟩ = some (.slice X n1 c1) := HasB.cell y0 0
          have y2 : w3.cell? ⟨wr.heap.size, 1, none⟩ = some (.int .i64 sa) := HasB.cell y0 1
          have y3 : w3.cell? ⟨wr.heap.size, 2, none⟩ = some (.int .i64 fa) := HasB.cell y0 2
          have q1 : w3.cell? ⟨g, i * 3, none⟩ = some b.1 := (b3a.cell (lt_of_cell HB.out.1)).trans HB.out.1
          have q2 : w3.cell? ⟨g, i * 3 + 1, none⟩ = some (.int .i64 b.2.sp) := (b3a.cell (lt_of_cell HB.out.2.1)).trans HB.out.2.1
          have q3 : w3.cell? ⟨g, i * 3 + 2, none⟩ = some (.int .i64 b.2.fr) := (b3a.cell (lt_of_cell HB.out.2.2)).trans HB.out.2.2
          have q4 : ∀ k, w3.frozen? ⟨g, k, none⟩ = false := fun k => (World.frozen?_of_block (b3a.block g (lt_of_cell HB.out.1))).trans (HFZ.out k)
          have zg3 := lt_of_cell q1
          clear b3 b3a x1 x2 x3 y0
          go_wp2_with fail
          go_roundw
          case rel => exact ⟨j + 1, i + 1, N.set i (.slice X n1 c1, ⟨la, sa, fa⟩), by omega, by go_num, by go_num, by omega, HKS, HW⟩
          case measure => simp [intOf]; omega
      · obtain rfl : j = rows.length := by omega
        have eki : (kr rows).length = i := by have := EI.out; rwa [List.take_length] at this
        have hd := R.out.done eki
        have hfr := R.out.free (by omega)
        have hce : ∀ k, k < (rows.length - i) * 3 → (wr.cell? ⟨g, i * 3 + k, none⟩).isSome = true := fun k hk => by
          have hl2 : i * 3 + k < (clCells N).length := by rw [clCells_len, R.out.len]; omega
          rw [R.out.row.cell (List.getElem?_eq_getElem hl2)]; rfl
        have hcl : ∀ ty, (Builtin.clear_ #[134] ty #[.slice (some ⟨g, i * 3, none⟩) (rows.length - i) (cap - i)]).run Tryz.prog wr = .ok (.tuple #[]) (wr.setCells g (i * 3) (clCells (zr (rows.length - i)))) := fun ty => run_clear_cl wr ty g (i * 3) _ _ (by omega) hce hfr
        have HE : Hid (GdPost τ w g cap rows (.returned (.slice (some ⟨g, 0, none⟩) i cap)) (wr.setCells g (i * 3) (clCells (zr (rows.length - i))))) := Lib.hid ⟨_, by rw [eki], hd.1, hd.2⟩
        have b3 : (i : Int) ≤ (rows.length : Int) := by omega
        have b4 : (0 : Int) ≤ (i : Int) := by omega
        have b5 : ¬ cap = i := by omega
        have b6 : (rows.length : Int) ≤ (cap : Int) := by omega
        have b7 : (i : Int) ≤ (cap : Int) := by omega
        clear eki hfr hce R HL hd KG
        go_wp2_with fail
        go_ret
        exact HE.out
end
end Go.Proofs.YtpmdnbdmocdngaaGreat

namespace Go.Proofs.YtpmdnbdmocdngaaGreat
open Go.ChangeShapes Go.WideShapes Go.ChangeAt Go.RowKit
set_option linter.unusedVariables false
set_option linter.unusedSimpArgs false

/-- Literals are taken away, claim by claim. -/
structure F1 (τ : Nat → Nat) (w : World) (ga m capa : Nat) (d : Sd) (cvs : List Value) (j : Nat) (R : List (Value × Cl)) (wr : World) : Prop where
  row : RowN τ 2 wr 206 3 (.slice (some ⟨ga, 0, none⟩) m capa) m (clCells R)
  S : Stk ga w wr
  F : Fgt d cvs R j
section
variable {B : Nat} {τ : Nat → Nat} {w wr : World} {p n ga m capa j : Nat} {d : Sd} {cvs : List Value} {R : List (Value × Cl)} {K0 : Nat → Prop}
theorem F1.below {W : World} (h : F1 τ w ga m capa d cvs j R wr) (b : Below wr.heap.size wr W) : F1 τ w ga m capa d cvs j R W :=
  ⟨h.row.below b, h.S.trans (Stk.of_below b), h.F⟩
theorem F1.put (h : F1 τ w ga m capa d cvs j R wr) (hm : d.cls.length = m) {k : Nat} {c : Cl} (hk : d.cls[k]? = some c) (h2 : 2 < c.sp) : ∃ R', F1 τ w ga m capa d cvs (j + 1) R' (wr.setCell ⟨ga, k * 3, none⟩ nilS) := by
  have hkl := (List.getElem?_eq_some_iff.1 hk).1
  obtain ⟨a, ha⟩ : ∃ a, R[k]? = some a := ⟨_, List.getElem?_eq_getElem (by rw [h.F.len]; exact hkl)⟩
  refine ⟨R.set k (nilS, a.2), ?_, h.S.trans Stk.set, h.F.set hk h2 ha⟩
  have := h.row.store (i := k * 3) (by omega) nilS
  unfold clCells at this ⊢
  have e := flat_set cl_len R k 0 a (nilS, a.2) (v := nilS) ha (by decide) rfl
  rw [Nat.add_zero] at e
  rw [e] at this
  exact this
theorem F1.cell (h : F1 τ w ga m capa d cvs j R wr) (hm : d.cls.length = m) {k : Nat} (hk : k < m) : (∃ u, wr.cell? ⟨ga, k * 3, none⟩ = some u) ∧ wr.frozen? ⟨ga, k * 3, none⟩ = false := by
  obtain ⟨a, ha⟩ : ∃ a, R[k]? = some a := ⟨_, List.getElem?_eq_getElem (by rw [h.F.len]; omega)⟩
  refine ⟨⟨a.1, ?_⟩, ?_⟩
  · have := h.row.cell (u := a.1) (i := k * 3 + 0) ((flat_at cl_len _ k 0 _ ha (by decide)).trans rfl)
    exact this
  · rcases h.row.at with ⟨h0, _⟩ | ⟨g', cap', cur, h0, hb, _⟩
    · cases h0
    · injection h0 with h0 _ _; injection h0 with h0; injection h0 with h0; subst h0; exact hb.free _
theorem Sr.wats {d : Sd} {τ : Nat → Nat} {w : World} (h : Sr B τ w p n d) : ∃ wb, w.cell? ⟨p, 1, none⟩ = some (.slice (some ⟨wb, 0, none⟩) (2 * n) (2 * n)) ∧ wb < w.heap.size := by
  obtain ⟨pcs, h⟩ := h
  obtain ⟨wb, wvs, a, b, _⟩ := h.wat
  exact ⟨wb, by rw [h.blk.cell, a], b.lt⟩
/-- The watches of all literals below x are let out. -/
def cutF (F : Nat → List (Nat × Nat)) (x : Nat) : Nat → List (Nat × Nat) := fun q => if q < x then [] else F q
theorem cutF_zero (F : Nat → List (Nat × Nat)) : cutF F 0 = F := by funext q; unfold cutF; rw [if_neg (by omega)]
theorem cutF_step (F : Nat → List (Nat × Nat)) (x : Nat) : (fun r => if r = x then [] else cutF F x r) = cutF F (x + 1) := by
  funext q
  unfold cutF
  by_cases h : q = x
  · rw [if_pos h, if_pos (by omega)]
  · rw [if_neg h]
    by_cases h2 : q < x
    · rw [if_pos h2, if_pos (by omega)]
    · rw [if_neg h2, if_neg (by omega)]
theorem cutF_all {F : Nat → List (Nat × Nat)} {x : Nat} (h : ∀ q, x ≤ q → F q = []) : cutF F x = fun _ => [] := by
  funext q
  unfold cutF
  by_cases h2 : q < x
  · rw [if_pos h2]
  · rw [if_neg h2]; exact h q (by omega)
theorem Sr.chead {d : Sd} {τ : Nat → Nat} {w : World} (h : Sr B τ w p n d) : ∃ A cap, w.cell? ⟨p, 0, none⟩ = some (.slice A d.cls.length cap) := by
  obtain ⟨pcs, h⟩ := h
  obtain ⟨v, cvs, h0, _, h2, _⟩ := h.cl
  rcases h2.at with ⟨e, e2⟩ | ⟨g, cap, cur, e, _⟩
  · exact ⟨none, 0, by rw [h.blk.cell, h0, e, e2]⟩
  · exact ⟨_, cap, by rw [h.blk.cell, h0, e]⟩
/-- What forget does. -/
def FrgPost (B : Nat) (τ : Nat → Nat) (w : World) (p n : Nat) (d : Sd) (q : Nat) (e : Ending) (w' : World) : Prop :=
  e = .returned (.tuple #[]) ∧ ∃ τ' cls' F' gk gu, Sr B τ' w' p n { d with cls := cls', F := F', gk := gk, gu := gu } ∧ Stp τ τ' w w' ∧ Wt n cls' F' ∧ (∀ c ∈ cls', c ∈ d.cls) ∧ (∀ c ∈ d.cls, c.sp = 0 → c ∈ cls') ∧ d.cls.length ≤ cls'.length + q ∧ cls'.length ≤ d.cls.length
set_option maxHeartbeats 3200000 in
set_option maxRecDepth 4000 in
theorem forget_any (h : Sr B τ w p n d) (hn : n ≤ 65536) (W : Wt n d.cls d.F) (C : Cs n K0 d.cls) (hgq : 2 * n ≤ d.gq) (hne : 0 < d.cls.length) (hb : d.cls.length < 2147483648) {A : Option Addr} {c : Nat} {ks : List Int}
    (hs : ∀ (i : Nat) z, ks[i]? = some z → ∃ a, A = some a ∧ w.cell? (a.add i) = some (.int .i32 z) ∧ τ a.block = 0) (hks : ∀ z ∈ ks, ∃ (k : Nat) (cl : Cl), z = (k : Int) ∧ d.cls[k]? = some cl ∧ 2 < cl.sp) (hkl : ks.length < 2147483648) :
    Calls Tryz.prog 132 #[ptr p, .slice A ks.length c] w (FrgPost B τ w p n d ks.length) := by
  obtain ⟨pcs, hx⟩ := id h
  have hl : ∀ cl ∈ d.cls, 0 < cl.ls.length := fun cl hc => by
    obtain ⟨k, hk⟩ := List.getElem?_of_mem hc
    have := C.len k cl hk; omega
  obtain ⟨ga, capa, cvs, e0, G, ca1, ca2⟩ := hx.gk hne
  have f0 : w.cell? ⟨p, 0, none⟩ = some (.slice (some ⟨ga, 0, none⟩) d.cls.length capa) := by rw [hx.blk.cell, e0]
  have hga : τ ga = 2 := G.row.2 ga rfl
  have hpg : p ≠ ga := fun e => by have := hx.blk.2; rw [e, hga] at this; cases this
  have R0 : Hid (F1 τ w ga d.cls.length capa d cvs 0 (cvs.zip d.cls) w) := ⟨G.row, Stk.of_below (Below.refl _ _), Fgt.start G hl⟩
  obtain ⟨M, hM⟩ : ∃ M, d.cls.length = M := ⟨_, rfl⟩
  have HEND := Lib.hid (fun (w1 : World) (R : List (Value × Cl)) (Z : List (Value × Cl)) (j m' : Nat) (F : Fgt d cvs R j) (S : Stk ga w w1) row (hm : (kr R).length = m') => hx.forgot (m' := m') (Z := Z) e0 G hl F S row hm)
  have HK := Lib.hid (fun (w1 : World) (S : Stk ga w w1) => show w1.cell? ⟨p, 0, none⟩ = some (.slice (some ⟨ga, 0, none⟩) M capa) ∧ w1.frozen? ⟨p, 0, none⟩ = false ∧ p < w1.heap.size from by
    have hk := S.block p hx.blk.lt hpg
    exact ⟨by rw [← hM]; exact (World.cell?_of_block hk).trans f0, (World.frozen?_of_block hk).trans (hx.blk.free 0), Nat.lt_of_lt_of_le hx.blk.lt S.size⟩)
  have HS := Lib.hid (fun (w1 : World) (S : Stk ga w w1) (i : Nat) z (hz : ks[i]? = some z) => show ∃ a, A = some a ∧ w1.cell? (a.add i) = some (.int .i32 z) from by
    obtain ⟨a, ha, hc, ht⟩ := hs i z hz
    have hlt : a.block < w.heap.size := by have := lt_of_cell hc; rwa [add_block] at this
    exact ⟨a, ha, (World.cell?_of_block (by rw [add_block]; exact S.block _ hlt (fun e => by rw [e, hga] at ht; cases ht))).trans hc⟩)
  have HKS := Lib.hid hks
  have HM := Lib.hid hM
  have HG := Lib.hid G
  have HL := Lib.hid hl
  have HW := Lib.hid W
  have HC := Lib.hid C
  rw [hM] at ca1 hne hb
  have R0 : Hid (F1 τ w ga M capa d cvs 0 (cvs.zip d.cls) w) := by rw [← HM.out]; exact R0
  clear h hx hs hks e0 G f0 hl W C hM
  go_enter Tryz.func132, Tryz.ntmps132
  go_wp2_with fail
  go_loopw [10] (fun kv wr => ∃ (j : Nat) (R : List (Value × Cl)), j ≤ ks.length ∧ kv = .int .i64 j ∧ Hid (F1 τ w ga M capa d cvs j R wr)) (fun kv _ => ks.length - (intOf kv).toNat)
  case atStart => exact ⟨0, _, Nat.zero_le _, rfl, R0⟩
  case round =>
    obtain ⟨j, R, hj, rfl, F⟩ := hrel
    clear R0
    by_cases hlt : j < ks.length
    · obtain ⟨z, hz⟩ : ∃ z, ks[j]? = some z := ⟨_, List.getElem?_eq_getElem hlt⟩
      obtain ⟨k, cl, rfl, hk, h2⟩ := HKS.out z (List.mem_of_getElem? hz)
      have hkM : k < M := by rw [← HM.out]; exact (List.getElem?_eq_some_iff.1 hk).1
      obtain ⟨a, rfl, hc⟩ := HS.out wr F.out.S j _ hz
      obtain ⟨f0, ff, zp⟩ := HK.out wr F.out.S
      obtain ⟨R', hF'⟩ := F.out.put HM.out hk h2
      have HF := Lib.hid hF'
      obtain ⟨⟨u, hu⟩, hfz⟩ := F.out.cell HM.out hkM
      have zg : ga < wr.heap.size := lt_of_cell hu
      have b1 : (k : Int) < (M : Int) := by omega
      have b2 : (0 : Int) ≤ (k : Int) := by omega
      have b3 : (j : Int) < (ks.length : Int) := by omega
      clear hk h2 hz hF'
      go_wp2_with fail
      go_roundw
      case rel => exact ⟨j + 1, R', by omega, by go_num, HF⟩
      case measure => simp [intOf]; omega
    · obtain rfl : j = ks.length := by omega
      obtain ⟨f0, ff, zp⟩ := HK.out wr F.out.S
      have hRl : R.length = M := by rw [F.out.F.len]; exact HM.out
      have CD : Hid (Calls Tryz.prog 176 #[.slice (some ⟨ga, 0, none⟩) M capa, .func (.func 177) #[] #[]] wr (GdPost τ wr ga capa R)) := by
        have := gdelete_any (rows := R) (by rw [hRl]; exact F.out.row) (fun a ha => by
          obtain ⟨i, hi⟩ := List.getElem?_of_mem ha
          exact F.out.F.lit HG.out HL.out hi) (by omega) (by omega) (by rw [hRl]; exact ⟨ca1, ca2⟩)
        rw [hRl] at this; exact Lib.hid this
      go_wp2_with fail
      (with_reducible refine CD.out.mono ?_)
      rintro e w2 ⟨Z, rfl, hrow, hstk⟩
      have hS2 := F.out.S.trans hstk
      obtain ⟨f02, ff2, zp2⟩ := HK.out w2 hS2
      rw [hRl, ← HM.out] at hrow
      have hEnd := HEND.out w2 R Z ks.length _ F.out.F hS2 hrow rfl
      have hsub := F.out.F.sub
      have hkeep := F.out.F.keeps HG.out HL.out
      have hcnt := F.out.F.cnt
      have hlen : (kr R).length ≤ d.cls.length := by rw [HM.out, ← hRl]; exact kr_len R
      obtain ⟨cls2, hcls2⟩ : ∃ cls2, (kr R).map (·.2) = cls2 := ⟨_, rfl⟩
      obtain ⟨m2, hm2⟩ : ∃ m2, (kr R).length = m2 := ⟨_, rfl⟩
      have hl2 : cls2.length = m2 := by rw [← hcls2, List.length_map]; exact hm2
      rw [hcls2, hm2] at hEnd
      rw [hcls2] at hsub hkeep
      rw [hm2] at hcnt hlen
      obtain ⟨D, hD⟩ : ∃ D : Sd, D = { d with cls := cls2, gk := m2, gu := nilS } := ⟨_, rfl⟩
      rw [← hD] at hEnd
      have HD := Lib.hid (show D.cls = cls2 ∧ D.F = d.F ∧ D.gq = d.gq from by subst hD; exact ⟨rfl, rfl, rfl⟩)
      obtain ⟨τ2, hτ2⟩ : ∃ τ2, rt R τ = τ2 := ⟨_, rfl⟩
      rw [hτ2] at hEnd
      have HSR := Lib.hid hEnd.1
      have HST := Lib.hid hEnd.2
      have HFIN := Lib.hid (And.intro hsub (And.intro hkeep (And.intro hcnt (And.intro hlen hl2))))
      have HFORM := Lib.hid hD
      obtain ⟨wb, f1, zw⟩ := hEnd.1.wats
      have zp3 : p < (w2.setCell ⟨p, 0, none⟩ (.slice (some ⟨ga, 0, none⟩) m2 capa)).heap.size := by simpa [World.setCell] using zp2
      rw [hm2]
      clear hEnd hsub hkeep hcnt hlen hl2 hcls2 hm2 hD hτ2 hrow hstk hS2 F CD f0 ff zp HEND HK HS HKS HG
      go_wp2_with fail
      generalize hw3 : w2.setCell ⟨p, 0, none⟩ (.slice (some ⟨ga, 0, none⟩) m2 capa) = w3 at *
      have R30 : Hid (Sr B τ2 w3 p n { D with F := cutF d.F 0 }) := Lib.hid (by rw [cutF_zero, ← HD.out.2.1]; exact HSR.out)
      go_loopw [35] (fun iv wr => ∃ (x : Nat) (τ3 : Nat → Nat), x ≤ 2 * n ∧ iv = .int .i64 x ∧ Hid (Sr B τ3 wr p n { D with F := cutF d.F x }) ∧ Hid (Stp τ τ3 w wr)) (fun iv _ => 2 * n - (intOf iv).toNat)
      case atStart => exact ⟨0, τ2, Nat.zero_le _, rfl, R30, HST⟩
      case round =>
        obtain ⟨x, τ3, hx, rfl, RS, RT⟩ := hrel
        clear R30 HSR HST f1 zw zp3 hw3 zp2
        by_cases hlt : x < 2 * n
        · obtain ⟨gw, Aw, cw, hw⟩ := RS.out.wat hlt
          have hgd : x ≠ ({ D with F := cutF d.F x } : Sd).gq := by
            show x ≠ D.gq
            rw [HD.out.2.2]; omega
          have f1 := hw.head
          have x1 := hw.at_
          have x2 := hw.wfree x
          have zw := hw.wlt
          have zp := RS.out.plt
          have b1 : (x : Int) < 2 * (n : Int) := by omega
          have b2 : (0 : Int) ≤ (x : Int) := by omega
          have HSET := Lib.hid (fun (v : Value) (hr : RowN τ3 (100 + 2 * x) wr 211 2 v 0 (watCells [])) => (RS.out.setF (l' := []) hw hlt hgd (Step.refl _ _ _) hr).2)
          rcases hw.own.2 with ⟨h0, hz⟩ | ⟨g, cp, cur, h0, hg1, hg2, hg3, hg4, hg5, hg6⟩
          · injection h0 with h0 h1 h2
            subst h0; subst h2
            have HS2 := Lib.hid (HSET.out (.slice none 0 0) ⟨⟨rfl, .inl ⟨rfl, rfl⟩⟩, fun g hg => by cases hg⟩)
            rw [h1] at x1
            clear hw HSET h1 hz
            go_wp2_with fail
            go_region
            go_wp2_with fail
            go_roundw
            case rel => exact ⟨x + 1, τ3, by omega, by go_num, Lib.hid (by rw [← cutF_step]; exact HS2.out.1.alike rfl rfl rfl rfl), Lib.hid (RT.out.trans (HS2.out.2.alike rfl rfl rfl rfl))⟩
            case measure => simp [intOf]; omega
          · injection h0 with h0 h1 h2
            subst h0; subst h2
            have HS2 := Lib.hid (HSET.out (.slice (some ⟨g, 0, none⟩) 0 cw) ⟨⟨rfl, .inr ⟨g, cw, cur, rfl, Nat.zero_le _, hg2, Nat.zero_le _, hg4, hg5, rfl⟩⟩, fun b hb => hw.role b hb⟩)
            have b3 : (0 : Int) ≤ (cw : Int) := by omega
            clear hw HSET h1 hg1 hg2 hg3 hg4 hg5 hg6
            go_wp2_with fail
            go_region
            go_wp2_with fail
            go_roundw
            case rel => exact ⟨x + 1, τ3, by omega, by go_num, Lib.hid (by rw [← cutF_step]; exact HS2.out.1.alike rfl rfl rfl rfl), Lib.hid (RT.out.trans (HS2.out.2.alike rfl rfl rfl rfl))⟩
            case measure => simp [intOf]; omega
        · have hx2 : x = 2 * n := by omega
          have hge2 : ¬ (x : Int) < 2 * (n : Int) := by omega
          have zp := RS.out.plt
          obtain ⟨A4, c4, f00⟩ := RS.out.chead
          have f0 : wr.cell? ⟨p, 0, none⟩ = some (.slice A4 m2 c4) := by
            have e : ({ D with F := cutF d.F x } : Sd).cls.length = m2 := by show D.cls.length = m2; rw [HD.out.1]; exact HFIN.out.2.2.2.2
            rw [e] at f00; exact f00
          clear f00
          have R40 : Hid (Sr B τ3 wr p n { D with F := fun _ => [] }) := Lib.hid (by rw [← cutF_all (F := d.F) (x := 2 * n) HW.out.wd, ← hx2]; exact RS.out)
          have W40 : Hid (Wt n (cls2.take 0) fun _ => []) := Lib.hid Wt.none_
          clear RS hx2
          go_wp2_with fail
          go_loopw [58] (fun kv wr => ∃ (k : Nat) (τ4 : Nat → Nat) (F4 : Nat → List (Nat × Nat)), k ≤ m2 ∧ kv = .int .i64 k ∧ Hid (Sr B τ4 wr p n { D with F := F4 }) ∧ Hid (Stp τ τ4 w wr) ∧ Hid (Wt n (cls2.take k) F4)) (fun kv _ => m2 - (intOf kv).toNat)
          case atStart => exact ⟨0, τ3, _, Nat.zero_le _, rfl, R40, RT, W40⟩
          case round =>
            obtain ⟨k, τ4, F4, hk, rfl, RS, RT, WT⟩ := hrel
            clear R40 W40 f0 zp
            have hl2 := HFIN.out.2.2.2.2
            have hm2M : m2 ≤ M := by have := HFIN.out.2.2.2.1; rw [HM.out] at this; exact this
            by_cases hlt : k < m2
            · obtain ⟨cl, hcl⟩ : ∃ cl, cls2[k]? = some cl := ⟨_, List.getElem?_eq_getElem (by omega)⟩
              obtain ⟨k', hk'⟩ := List.getElem?_of_mem (HFIN.out.1 cl (List.mem_of_getElem? hcl))
              have hlen := HC.out.len k' cl hk'
              obtain ⟨q0, h0⟩ : ∃ q, cl.ls[0]? = some q := ⟨_, List.getElem?_eq_getElem (by omega)⟩
              obtain ⟨q1, h1⟩ : ∃ q, cl.ls[1]? = some q := ⟨_, List.getElem?_eq_getElem (by omega)⟩
              have hq0 := (HC.out.lt k' cl hk' q0 (List.mem_of_getElem? h0)).1
              have hq1 := (HC.out.lt k' cl hk' q1 (List.mem_of_getElem? h1)).1
              have hq01 : q0 ≠ q1 := nd_ne (HC.out.nd k' cl hk') (by decide) h0 h1
              have hgd := HD.out.2.2
              have hcD : ({ D with F := F4 } : Sd).cls[k]? = some cl := by show D.cls[k]? = _; rw [HD.out.1]; exact hcl
              have hFb : ∀ q, (({ D with F := F4 } : Sd).F q).length ≤ 4294967295 := fun q => by
                have h := WT.out.all q
                rw [List.length_take] at h
                show (F4 q).length ≤ _; omega
              have CL := Lib.hid (look_any RS.out hn hcD (by omega) h0 h1 hq0 hq1 (by show q0 ≠ D.gq; omega) (by show q1 ≠ D.gq; omega) hFb)
              have WN := Lib.hid (Wt.next (D := { D with F := F4 }) WT.out hcl h0 h1 hq0 hq1 hq01)
              have t2 : IntKind.i32.wrap (k : Int) = (k : Int) := by rw [IntKind.wrap_i32]; omega
              clear hcl hk' hlen h0 h1 hq0 hq1 hq01 hgd hcD hFb RS WT
              go_wp2_with fail
              (with_reducible refine CL.out.mono ?_)
              rintro e w5 ⟨rfl, τ5, s5, t5⟩
              have RS5 := Lib.hid s5
              have RT5 := Lib.hid (RT.out.trans t5)
              clear s5 t5 CL
              go_wp2_with fail
              go_roundw
              case rel => exact ⟨k + 1, τ5, _, by omega, by go_num, RS5, RT5, WN⟩
              case measure => simp [intOf]; omega
            · have hkm : k = m2 := by omega
              have hge : ¬ (k : Int) < (m2 : Int) := by omega
              have HE : Hid (FrgPost B τ w p n d ks.length (.returned (.tuple #[])) wr) := by
                have hw := WT.out
                rw [hkm, ← hl2, List.take_length] at hw
                have hr := RS.out
                rw [HFORM.out] at hr
                exact Lib.hid ⟨rfl, τ4, cls2, F4, _, _, hr, RT.out, hw, HFIN.out.1, HFIN.out.2.1, by rw [hl2]; exact HFIN.out.2.2.1, by rw [hl2]; exact HFIN.out.2.2.2.1⟩
              clear RS RT WT hkm
              go_wp2_with fail
              go_end0
              exact HE.out
end
end Go.Proofs.YtpmdnbdmocdngaaGreat

namespace Go.Proofs.YtpmdnbdmocdngaaGreat
open Go.ChangeShapes Go.WideShapes Go.ChangeAt Go.RowKit
set_option linter.unusedVariables false
set_option linter.unusedSimpArgs false

section
variable {B : Nat} {τ : Nat → Nat} {w : World} {p n : Nat} {d : Sd} {K0 : Nat → Prop} {Mo : (Nat → Bool) → Prop}
theorem start_small (h : Sr B τ w p n d) (R : Ru n K0 Mo d) (h0 : 0 ≤ d.le) (hle : d.le ≤ d.mo) :
    Calls Tryz.prog 101 #[ptr p] w (StPost B τ w p n K0 Mo d) := by
  by_cases hm : d.ma = []
  · refine (start_none h R.I.L hm hle).mono ?_
    rintro e w' ⟨rfl, b⟩
    exact ⟨rfl, τ, d, h.below b, Stp.of_below _ b, R, ⟨hm, rfl, rfl, rfl, h0, .inl (Int.le_refl _), ⟨Int.le_refl _, by omega⟩, ⟨Nat.le_refl _, Keeps.refl _⟩⟩⟩
  · obtain ⟨fr, hfr⟩ : ∃ fr, d.ma[0]? = some fr := ⟨_, List.getElem?_eq_getElem (List.length_pos_iff.2 hm)⟩
    refine (start_back h R.I.L R.Q R.lk R.I.T.tl hfr (R.I.T.mb fr (List.mem_of_getElem? hfr)) hle).mono ?_
    rintro e w' ⟨rfl, τ9, lk9, hp9, pl9, a, b, c, e, f, g⟩
    exact ⟨rfl, τ9, d.back 0 fr lk9 hp9 pl9, a, b, R.over hfr f c e g, ⟨rfl, rfl, rfl, rfl, h0, .inl (Int.le_refl _), ⟨Int.le_refl _, by show d.mo ≤ d.mo + 500; omega⟩, ⟨Nat.le_refl _, Keeps.refl _⟩⟩⟩
end
end Go.Proofs.YtpmdnbdmocdngaaGreat
