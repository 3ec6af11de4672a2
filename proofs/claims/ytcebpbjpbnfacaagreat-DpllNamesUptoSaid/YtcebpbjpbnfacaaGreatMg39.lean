/-
  Parts of the proof, joined: DpllNx, UnitB, UnitX, UnitQ.
-/
import Derived.Test.YtcebpbjpbnfacaaGreatMg34
import Derived.Test.YtcebpbjpbnfacaaGreatMg37
import Derived.ProofKit
import Derived.JoinedCond
import Derived.Deep.LoopGhost
import Derived.Laws.Small
import Derived.Laws.Unary
import Derived.Deep.OwnRows

/-
  newSearch of package dpll: the walk.
-/
namespace Go.Proofs.YtcebpbjpbnfacaaGreat
open Go.ChangeShapes Go.WideShapes Go.ChangeAt Go.RowKit
set_option linter.unusedVariables false
set_option linter.unusedSimpArgs false

/-- What is known, as far as it was gone through. -/
structure KnR (τ : Nat → Nat) (w0 : World) (p n : Nat) (t : List Int) (k : Nat) (wo' : List Int) (lk : List Nat) (wr : World) : Prop where
  R : Sr w0.heap.size τ wr p n { dInit n with wo := wo', lk := lk }
  B : Below w0.heap.size w0 wr
  wl : wo'.length = 2 * n
  ll : lk.length = n
  yes : ∀ (v : Nat) (x : Int), v < k → t[v]? = some x → wo'[2 * v]? = some x ∧ wo'[2 * v + 1]? = some (-x)
  lik : ∀ v, v < k → lk[v]? = some (2 * v + 1)
section
variable {n : Nat} {f : List (List Int)} {t : List Int} {w : World}
set_option maxHeartbeats 6400000 in
set_option maxRecDepth 4000 in
theorem newSearch_any {A AK : Option Addr} {fcap kcap : Nat} (hf : FormAt w A f) (hok : FOk n f) (hfl : f.length ≤ 100000) (hcl : ∀ c ∈ f, c.length ≤ 100000) (hk : SeqAt (Value.int .i64) w AK t) (ht : TV n t) (hrest : Rest f t) (hn : n ≤ 65536) :
    Calls Tryz.prog 33 #[.slice A f.length fcap, .slice AK t.length kcap] w (NsPost n f t w) := by
  have htl := ht.1
  have HK := Lib.hid hk
  have HT := Lib.hid ht
  have HF := Lib.hid hf
  have HOK := Lib.hid hok
  have HR := Lib.hid hrest
  have HCL := Lib.hid hcl
  rw [htl]
  clear hk ht hf hok hrest hcl
  go_enter Tryz.func33, Tryz.ntmps33
  go_wp2_with fail
  refine nsregion (F := .slice A f.length fcap) (K := .slice AK n kcap) hn (fun a w1 hmid => ?_)
  obtain ⟨τ, v, p, rfl, hv, b1, hz, hp, hs⟩ := hmid
  unfold mkA
  rw [hv]
  have K0 : Hid (KnR τ w p n t 0 (dInit n).wo (dInit n).lk w1) := ⟨hs _ (Nat.le_refl _), b1, by simp [dInit], by simp [dInit], fun v x hv => by omega, fun v hv => by omega⟩
  clear hv b1 hs
  generalize v 0 = v0
  generalize v 1 = v1
  generalize v 2 = v2
  generalize v 3 = v3
  generalize v 4 = v4
  generalize v 5 = v5
  generalize v 6 = v6
  generalize v 7 = v7
  generalize v 8 = v8
  generalize v 9 = v9
  generalize v 10 = v10
  generalize v 11 = v11
  generalize v 12 = v12
  generalize v 13 = v13
  generalize v 14 = v14
  generalize v 15 = v15
  generalize v 16 = v16
  generalize v 17 = v17
  generalize v 18 = v18
  clear v
  go_wp2_with fail
  go_loopw [34] (fun iv wr => ∃ (k : Nat) (τ' : Nat → Nat) (wo' : List Int) (lk : List Nat), k ≤ n ∧ iv = .int .i64 k ∧ Hid (KnR τ' w p n t k wo' lk wr)) (fun iv _ => n - (intOf iv).toNat)
  case atStart => exact ⟨0, τ, _, _, Nat.zero_le _, rfl, K0⟩
  case round =>
    obtain ⟨k, τ', wo', lk, hkn, rfl, R⟩ := hrel
    clear K0
    by_cases hlt : k < n
    · obtain ⟨x, hx⟩ : ∃ x, t[k]? = some x := ⟨_, List.getElem?_eq_getElem (by omega)⟩
      obtain ⟨a, rfl, hca⟩ := HK.out.get k x hx
      have za : a.block < w.heap.size := by have := lt_of_cell hca; rwa [add_block] at this
      have xk : wr.cell? (a.add k) = some (.int .i64 x) := (R.out.B.cell (p := a.add k) (by rw [add_block]; exact za)).trans hca
      have hxr := HT.out.2 k x hx
      have HX := Lib.hid hx
      obtain ⟨g2, c2, a2⟩ := R.out.R.at_wo (by show 0 < wo'.length; rw [R.out.wl]; omega)
      have hwl := R.out.wl
      obtain ⟨y1, hy1⟩ : ∃ y, wo'[2 * k]? = some y := ⟨_, List.getElem?_eq_getElem (by omega)⟩
      obtain ⟨y2, hy2⟩ : ∃ y, wo'[2 * k + 1]? = some y := ⟨_, List.getElem?_eq_getElem (by omega)⟩
      have f2 := a2.len_wo.1
      have l2 : wo'.length ≤ c2 := a2.len_wo.2
      have k2 := a2.cap
      have x1 := a2.wo hy1
      have x2 := a2.wo hy2
      have r2 := a2.free
      have z2 := a2.lt
      have zp := R.out.R.plt
      have n2 := a2.ne
      have f2' : wr.cell? ⟨p, 2, none⟩ = some (.slice (some ⟨g2, 0, none⟩) wo'.length c2) := f2
      have b1 : (0 : Int) ≤ (k : Int) := by omega
      have b2 : (k : Int) < (n : Int) := by omega
      have b3 : 2 * (k : Int) < (wo'.length : Int) := by omega
      have b4 : 2 * (k : Int) + 1 < (wo'.length : Int) := by omega
      have w1 : IntKind.i64.wrap (2 * (k : Int)) = 2 * (k : Int) := by rw [IntKind.wrap_i64]; omega
      have w2 : IntKind.i64.wrap (2 * (k : Int) + 1) = 2 * (k : Int) + 1 := by rw [IntKind.wrap_i64]; omega
      obtain ⟨y, hy⟩ : ∃ y, -x = y := ⟨_, rfl⟩
      have w3 : IntKind.i64.wrap y = y := by rw [IntKind.wrap_i64]; omega
      have w4 : IntKind.i8.wrap y = y := by rw [← hy]; rcases hxr with h | h | h <;> rw [h] <;> rfl
      have w5 : IntKind.i8.wrap x = x := by rcases hxr with h | h | h <;> rw [h] <;> rfl
      have t2 : (2 * (k : Int)).toNat = 2 * k := by omega
      have t3 : (2 * (k : Int) + 1).toNat = 2 * k + 1 := by omega
      have s1 := R.out.R.put_wo a2 (by show 2 * k < wo'.length; omega) x
      obtain ⟨g3, c3, a3⟩ := s1.1.at_wo (by show 0 < (wo'.set _ _).length; rw [List.length_set]; omega)
      have eg : g3 = g2 := by
        have e := a3.head
        rw [(World.cell?_of_block (set_other (p := ⟨g2, 2 * k, none⟩) n2.symm)).trans a2.head] at e
        injection e with e; injection e with e _ e3; injection e with e; injection e with e
        exact e.symm
      subst eg
      have s2 := s1.1.put_wo a3 (by show 2 * k + 1 < (wo'.set _ _).length; rw [List.length_set]; omega) y
      have HA := Lib.hid (And.intro s2.1 (s1.2.trans s2.2))
      have HY := Lib.hid hy
      have HK2 := Lib.hid (show g3 ≠ p from n2)
      clear a2 a3 s1 s2 hca hx hy1 hy2 hxr
      go_wp2_with fail
      go_region
      have R2 := Lib.hid (show Sr w.heap.size τ' ((wr.setCell ⟨g3, 2 * k, none⟩ (.int .i8 x)).setCell ⟨g3, 2 * k + 1, none⟩ (.int .i8 y)).drew p n { dInit n with wo := (wo'.set (2 * k) x).set (2 * k + 1) y, lk := lk } from HA.out.1.alike rfl rfl rfl rfl)
      have T2 := Lib.hid (HA.out.2.alike (W := ((wr.setCell ⟨g3, 2 * k, none⟩ (.int .i8 x)).setCell ⟨g3, 2 * k + 1, none⟩ (.int .i8 y)).drew) rfl rfl rfl rfl)
      generalize ((wr.setCell ⟨g3, 2 * k, none⟩ (.int .i8 x)).setCell ⟨g3, 2 * k + 1, none⟩ (.int .i8 y)).drew = W1 at *
      clear HA f2 l2 k2 x1 x2 r2 z2 zp n2 f2' b3 b4 w1 w2 w3 w4 w5 t2 t3 xk za
      obtain ⟨g8, c8, a8⟩ := R2.out.at_lk (by show 0 < lk.length; rw [R.out.ll]; omega)
      have hll := R.out.ll
      obtain ⟨y8, hy8⟩ : ∃ y, lk[k]? = some y := ⟨_, List.getElem?_eq_getElem (by omega)⟩
      have f8 : W1.cell? ⟨p, 8, none⟩ = some (.slice (some ⟨g8, 0, none⟩) lk.length c8) := a8.len_lk.1
      have l8 : lk.length ≤ c8 := a8.len_lk.2
      have k8 := a8.cap
      have x8 := a8.lk hy8
      have r8 := a8.free
      have z8 := a8.lt
      have n8 := a8.ne
      have zp := R2.out.plt
      have b3 : (k : Int) < (lk.length : Int) := by omega
      obtain ⟨m, hm⟩ : ∃ m : Int, -(k : Int) = m := ⟨_, rfl⟩
      have w1 : IntKind.i64.wrap m = m := by rw [IntKind.wrap_i64]; omega
      have w2 : IntKind.i64.wrap (m - 1) = m - 1 := by rw [IntKind.wrap_i64]; omega
      have hlo : litOf (m - 1) = 2 * k + 1 := by unfold litOf; rw [if_pos (by omega)]; omega
      have CL := Lib.hid (show ∀ W : World, Calls Tryz.prog 65 #[.int .i64 (m - 1)] W fun e w' => e = .returned (.int .i32 ((2 * k + 1 : Nat) : Int)) ∧ W = w' from fun W => by rw [← hlo]; exact lit_any (m - 1) W (by omega) (by omega) (by omega))
      have s8 := R2.out.put_lk a8 (i := k) (by show k < lk.length; omega) (2 * k + 1)
      have HB := Lib.hid s8
      have K8 : ∀ (W : World) (o : Nat) (u : Value), W.cell? ⟨p, 8, none⟩ = some (.slice (some ⟨g8, 0, none⟩) lk.length c8) → (W.setCell ⟨g8, o, none⟩ u).cell? ⟨p, 8, none⟩ = some (.slice (some ⟨g8, 0, none⟩) lk.length c8) := fun W o u h => (World.cell?_of_block (set_other (p := ⟨g8, o, none⟩) n8.symm)).trans h
      obtain ⟨q8, hq8⟩ : ∃ q8 : Int, ((2 * k + 1 : Nat) : Int) = q8 := ⟨_, rfl⟩
      rw [hq8] at CL HB
      clear a8 hy8 s8 hlo hq8
      go_wp2_with fail
      go_region_held3 (fun w' => w'.cell? ⟨p, 8, none⟩ = some (.slice (some ⟨g8, 0, none⟩) lk.length c8)) (first | go_keep | (exact K8 _ _ _ (by assumption))) ((go_at_call 65; (with_reducible refine (CL.out _).mono ?_); rintro e we ⟨rfl, rfl⟩))
      have HN : Hid (KnR τ' w p n t (k + 1) ((wo'.set (2 * k) x).set (2 * k + 1) y) (lk.set k (2 * k + 1)) (W1.setCell ⟨g8, k, none⟩ (.int .i32 q8)).drew) := by
        refine ⟨HB.out.1.alike rfl rfl rfl rfl, ?_, by rw [List.length_set, List.length_set]; exact hwl, by rw [List.length_set]; exact hll, fun v z hv hz => ?_, fun v hv => ?_⟩
        · have st := (T2.out.trans HB.out.2).alike (W := (W1.setCell ⟨g8, k, none⟩ (.int .i32 q8)).drew) rfl rfl rfl rfl
          have hlow : ∀ b, b < w.heap.size → τ' b = 0 := by obtain ⟨pcs, s⟩ := R.out.R; exact s.low
          exact R.out.B.trans (st.below R.out.B.size hlow)
        · by_cases e : v = k
          · subst e
            rw [HX.out] at hz; injection hz with hz; subst hz
            rw [HY.out]
            exact ⟨by rw [List.getElem?_set_ne (by omega)]; exact List.getElem?_set_self (by omega), List.getElem?_set_self (by rw [List.length_set]; omega)⟩
          · obtain ⟨a, b⟩ := R.out.yes v z (by omega) hz
            exact ⟨by rw [List.getElem?_set_ne (by omega), List.getElem?_set_ne (by omega)]; exact a, by rw [List.getElem?_set_ne (by omega), List.getElem?_set_ne (by omega)]; exact b⟩
        · by_cases e : v = k
          · subst e; exact List.getElem?_set_self (by omega)
          · rw [List.getElem?_set_ne (fun e' => e e'.symm)]; exact R.out.lik v (by omega)
      clear R R2 T2 HB K8 hm
      go_wp2_with fail
      go_roundw
      case rel => exact ⟨k + 1, τ', _, _, by omega, by go_num, HN⟩
      case measure => simp [intOf]; omega
    · obtain rfl : k = n := by omega
      have KN := Lib.hid (show Kn k t wo' from ⟨R.out.wl, fun v x hx => R.out.yes v x (by have := (List.getElem?_eq_some_iff.1 hx).1; omega) hx⟩)
      have RD := Lib.hid (rdy0 (f := f) (lk := lk) KN.out HT.out hn R.out.ll (fun v hv => ⟨2 * v + 1, R.out.lik v hv, by omega⟩))
      have R1 := Lib.hid R.out.R
      have B1 := Lib.hid R.out.B
      obtain ⟨dd, hdd⟩ : ∃ dd : Sd, dd = { dInit k with wo := wo', lk := lk } := ⟨_, rfl⟩
      have D0 : Hid (Sr w.heap.size τ' wr p k dd ∧ Below w.heap.size w wr ∧ Rdy k (K0of wo') (MoF k f wo') dd ∧ dd.wo = wo' ∧ Cov (K0of wo') dd (f.take 0) ∧ dd.cls.length ≤ 0) := by
        rw [hdd]
        exact ⟨R1.out, B1.out, RD.out, rfl, fun c hc => by simp at hc, Nat.le_refl _⟩
      clear hdd
      clear R RD R1 B1
      go_wp2_with fail
      go_loopw [72] (fun iv wr => ∃ (i : Nat) (τ' : Nat → Nat) (d : Sd), i ≤ f.length ∧ iv = .int .i64 i ∧ Hid (Sr w.heap.size τ' wr p k d ∧ Below w.heap.size w wr ∧ Rdy k (K0of wo') (MoF k f wo') d ∧ d.wo = wo' ∧ Cov (K0of wo') d (f.take i) ∧ d.cls.length ≤ i)) (fun iv _ => f.length - (intOf iv).toNat)
      case atStart => exact ⟨0, τ', dd, Nat.zero_le _, rfl, D0⟩
      case round =>
        obtain ⟨i, τ2, d, hi, rfl, D⟩ := hrel
        clear D0
        by_cases hlt : i < f.length
        · obtain ⟨c, hc⟩ : ∃ c, f[i]? = some c := ⟨_, List.getElem?_eq_getElem hlt⟩
          obtain ⟨a, C, ccap, rfl, hce, hs, _⟩ := HF.out.get i c hc
          have za := HF.out.lt a rfl
          have xi : wr.cell? (a.add i) = some (.slice C c.length ccap) := (D.out.2.1.cell (p := a.add i) (by rw [add_block]; exact za)).trans hce
          have hmem := List.mem_of_getElem? hc
          have hrm := row_mems (HOK.out c hmem) hn
          have CT := Lib.hid (take_any D.out.1 D.out.2.2.1 (A := C) (c := c) (cap := ccap) (hs.keep D.out.2.1) (HF.out.wf c hmem) (HCL.out c hmem) (fun x hx => HOK.out c hmem x ((hrm x).1 hx)) (by
            right
            rcases HR.out c hmem with ⟨x, hx, h1⟩ | ⟨x, hx, y, hy, hne, h1, h2⟩
            · exact .inl ⟨x, (hrm x).2 hx, by rw [D.out.2.2.2.1, KN.out.val (HOK.out c hmem x hx) htl]; exact h1⟩
            · right
              have ox := HOK.out c hmem x hx
              have oy := HOK.out c hmem y hy
              have := nodup_sub [litOf x, litOf y] (opn d.wo (row c)) (by simp; exact fun e => hne (litOf_inj ox.1 oy.1 e)) (fun z hz => by
                rcases List.mem_cons.1 hz with rfl | hz
                · exact List.mem_map.2 ⟨x, List.mem_filter.2 ⟨(hrm x).2 hx, by rw [D.out.2.2.2.1, KN.out.val ox htl]; simpa using h1⟩, rfl⟩
                · obtain rfl := List.mem_singleton.1 hz
                  exact List.mem_map.2 ⟨y, List.mem_filter.2 ⟨(hrm y).2 hy, by rw [D.out.2.2.2.1, KN.out.val oy htl]; simpa using h2⟩, rfl⟩)
              simpa using this) (fun m hm => by
            obtain ⟨l, hl, h1⟩ := hm.1 c hmem
            exact .inr ⟨l, (hrm l).2 hl, h1⟩) (fun m hm q hq hk => hm.2 q hq hk) (by have := D.out.2.2.2.2.2; omega))
          have HC := Lib.hid hc
          have b1 : (0 : Int) ≤ (i : Int) := by omega
          have b2 : (i : Int) < (f.length : Int) := by omega
          clear hc hs hmem hrm hce
          go_wp2_with fail
          (with_reducible refine CT.out.mono ?_)
          rintro e w3 ⟨rfl, τ3, d3, s3, t3, r3, e3, k3⟩
          have HN : Hid (Sr w.heap.size τ3 w3 p k d3 ∧ Below w.heap.size w w3 ∧ Rdy k (K0of wo') (MoF k f wo') d3 ∧ d3.wo = wo' ∧ Cov (K0of wo') d3 (f.take (i + 1)) ∧ d3.cls.length ≤ i + 1) := by
            have hlow : ∀ b, b < w.heap.size → τ2 b = 0 := by obtain ⟨pcs, s⟩ := D.out.1; exact s.low
            refine ⟨s3, D.out.2.1.trans (t3.below D.out.2.1.size hlow), r3, e3.trans D.out.2.2.2.1, ?_, ?_⟩
            · obtain ⟨h1, h2⟩ := List.getElem?_eq_some_iff.1 HC.out
              rw [List.take_succ_eq_append_getElem h1, h2]
              exact D.out.2.2.2.2.1.take D.out.2.2.2.1 k3
            · have := D.out.2.2.2.2.2
              rcases k3 with ⟨e, _⟩ | ⟨ls, fr, e, _⟩
              · rw [e]; omega
              · rw [e, List.length_append]; simp; omega
          clear s3 t3 r3 e3 k3 D CT
          go_wp2_with fail
          go_roundw
          case rel => exact ⟨i + 1, τ3, d3, by omega, by go_num, HN⟩
          case measure => simp [intOf]; omega
        · obtain rfl : i = f.length := by omega
          have HE : Hid (NsPost k f t w (.returned (ptr p)) wr) := ⟨τ2, p, d, wo', rfl, KN.out, D.out.1, D.out.2.1, D.out.2.2.1, D.out.2.2.2.1, by have := D.out.2.2.2.2.1; rwa [List.take_length] at this, D.out.2.2.2.2.2⟩
          go_wp2_with fail
          go_ret
          exact HE.out
end
end Go.Proofs.YtcebpbjpbnfacaaGreat

/-
  Arguments of unit's laws, opened where they hold together at most 1048576 values.
-/
namespace Go.Proofs.YtcebpbjpbnfacaaGreat
open Go.ChangeShapes Go.WideShapes Go.ChangeAt Go.RowKit
set_option linter.unusedVariables false

theorem own : ownKnob Tryz.prog.godebug = none := by kernel_rfl
theorem cellsInt : Tryz.prog.cellsOf 3 = 1 := by kernel_rfl
theorem cellsRow : Tryz.prog.cellsOf 37 = 1 := by kernel_rfl
theorem bulk_pos {H : Type} (d : DataW H) : 1 ≤ Rows.uptoBulk d := by
  cases d <;> (try (rename_i l; cases l)) <;> simp [Rows.uptoBulk]
theorem bulk_len {H : Type} (l : List (DataW H)) : l.length ≤ Rows.uptoBulkAll l := by
  induction l with
  | nil => simp
  | cons d l ih => have := bulk_pos d; simp only [Rows.uptoBulkAll, List.length_cons]; omega
theorem bulk_mem {H : Type} {l : List (DataW H)} {d : DataW H} (h : d ∈ l) : Rows.uptoBulk d ≤ Rows.uptoBulkAll l := by
  induction l with
  | nil => cases h
  | cons e l ih =>
    simp only [Rows.uptoBulkAll]
    rcases List.mem_cons.1 h with rfl | h
    · omega
    · have := ih h; omega
section
variable {H : Type} {enc : TypeId × Value → H} {P : Program} {W : World}
theorem len_bulk {t e : TypeId} (ht : P.underlying t = some (.slice e)) (hc : P.cellsOf e = 1) {v : Value} {d : DataW H} {p : List MemPlace} (h : DataW.Trod enc P W 0 (fun _ => true) true t v d p) :
    ∀ A n c, v = .slice A n c → n ≤ Rows.uptoBulk d := by
  intro A n c hv
  obtain ⟨fuel, hf⟩ := h
  rcases Deep.open_slice1 ht hc hf with ⟨h0, _⟩ | ⟨a, len, cap, m, n', V, D, Pl, h1, _, hl, hm, hmm, hx, _⟩
  · subst hv
    simp [Value.cells] at h0
    omega
  · subst hv
    simp only [Value.cells, List.cons.injEq, and_true] at h1
    injection h1 with h1 h2 h3
    subst h2
    simp only [Prod.mk.injEq] at hx
    rw [hx.1]
    have := bulk_len ((List.range n).map D)
    simp only [List.length_map, List.length_range] at this
    simp only [Rows.uptoBulk]
    omega
theorem row_bulk {t e q : TypeId} (ht : P.underlying t = some (.slice e)) (he : P.underlying e = some (.slice q)) (hc : P.cellsOf e = 1) (hq : P.cellsOf q = 1) {v : Value} {d : DataW H} {p : List MemPlace} (h : DataW.Trod enc P W 0 (fun _ => true) true t v d p) :
    ∀ (a : Addr) n c, v = .slice (some a) n c → ∀ (i : Nat) B m k, i < n → W.cell? (a.add i) = some (.slice B m k) → m ≤ Rows.uptoBulk d := by
  intro a n c hv i B m k hi hcell
  obtain ⟨fuel, hf⟩ := h
  rcases Deep.open_slice1 ht hc hf with ⟨h0, _⟩ | ⟨a', len, cap, m', n', V, D, Pl, h1, _, hl, hm, hmm, hx, hr⟩
  · subst hv
    simp [Value.cells] at h0
  · subst hv
    simp only [Value.cells, List.cons.injEq, and_true] at h1
    injection h1 with h1 h2 h3
    injection h1 with h1
    subst h1; subst h2
    rw [if_pos rfl] at hmm
    obtain ⟨g1, g2⟩ := hr i (by omega)
    rw [hcell] at g1
    injection g1 with g1
    have hi2 : Rows.uptoBulk (D i) ≤ Rows.uptoBulkAll ((List.range n).map D) := bulk_mem (List.mem_map.2 ⟨i, List.mem_range.2 hi, rfl⟩)
    simp only [Prod.mk.injEq] at hx
    have hd : Rows.uptoBulkAll ((List.range n).map D) ≤ Rows.uptoBulk d := by rw [hx.1]; simp only [Rows.uptoBulk]; omega
    have := len_bulk (W := W) (enc := enc) (v := V i) (d := D i) (p := Pl i) he hq ⟨n', by rw [← g1] at g2 ⊢; simpa [Value.cells] using g2⟩ B m k g1.symm
    omega
theorem nil_form {base : Nat} {t e : TypeId} (ht : P.underlying t = some (.slice e)) {v : Value} (h : Value.okWide P W .any base t v) : ∀ n c, v = .slice none n c → n = 0 ∧ c = 0 := by
  intro n c hv
  rcases slice_ok ht h with h0 | ⟨a, len, cap, h0, _⟩
  · rw [h0] at hv; injection hv with _ h1 h2; exact ⟨h1.symm, h2.symm⟩
  · rw [h0] at hv; cases hv
/-- A formula of an argument, of a bounded size. -/
def FormB (W : World) (v : Value) : Prop := ∃ (A : Option Addr) (f : List (List Int)) (cap : Nat), v = .slice A f.length cap ∧ FormAt W A f ∧ f.length ≤ 1048576 ∧ ∀ c ∈ f, c.length ≤ 1048576
theorem form_b {base : Nat} {t e q : TypeId} (ht : P.underlying t = some (.slice e)) (he : P.underlying e = some (.slice q)) (hq : P.underlying q = some (.int .i64)) (ce : P.cellsOf e = 1) (cq : P.cellsOf q = 1) {v : Value} {d : DataW H} {p : List MemPlace}
    (hok : Value.okWide P W .any base t v) (h : DataW.Trod enc P W 0 (fun _ => true) true t v d p) (hb : Rows.uptoBulk d ≤ 1048576) : FormB W v := by
  obtain ⟨A, f, cap, hv, hf, _⟩ := form_open ht he hq ce cq hok h
  refine ⟨A, f, cap, hv, hf, Nat.le_trans (len_bulk ht ce h A _ _ hv) hb, fun c hc => ?_⟩
  obtain ⟨i, hi⟩ := List.mem_iff_getElem?.1 hc
  obtain ⟨a, B, ccap, ha, hcell, _, _⟩ := hf.get i c hi
  subst ha
  exact Nat.le_trans (row_bulk ht he ce cq h a _ _ hv i B _ _ (List.getElem?_eq_some_iff.1 hi).1 hcell) hb
/-- Numbers of an argument. -/
def IntsN (W : World) (v : Value) : Prop := ∃ (A : Option Addr) (zs : List Int) (cap : Nat), v = .slice A zs.length cap ∧ SeqAt (Value.int .i64) W A zs ∧ zs.length ≤ 9223372036854775807 ∧ (∀ z ∈ zs, Wf z) ∧ (A = none → zs.length = 0 ∧ cap = 0)
theorem ints_n {base : Nat} {t e : TypeId} (ht : P.underlying t = some (.slice e)) (he : P.underlying e = some (.int .i64)) (hc : P.cellsOf e = 1) {v : Value} {d : DataW H} {p : List MemPlace}
    (hok : Value.okWide P W .any base t v) (h : DataW.Trod enc P W 0 (fun _ => true) true t v d p) : IntsN W v := by
  obtain ⟨A, zs, cap, hv, h1, h2, h3⟩ := ints_open ht he hc hok h
  exact ⟨A, zs, cap, hv, h1, h2, h3, fun e => nil_form ht hok _ _ (by rw [hv, e])⟩
end
end Go.Proofs.YtcebpbjpbnfacaaGreat

/-
  The document's own answer for unit: differ, and Unit: the least truths at rest, or that there are none.
-/
namespace Go.Proofs.YtcebpbjpbnfacaaGreat
open Go.ChangeShapes Go.WideShapes Go.ChangeAt Go.RowKit
set_option linter.unusedVariables false

def Two (t c : List Int) : Prop := ∃ x ∈ c, ∃ y ∈ c, x ≠ y ∧ wo t x = 0 ∧ wo t y = 0
def DifPost (t c : List Int) (W : World) (e : Ending) (W' : World) : Prop := (∃ b : Bool, e = .returned (.bool b) ∧ (b = true ↔ Two t c)) ∧ W = W'
def isT (t : List Int) (y : Int) : Bool := decide (wo t y = 1)
/-- What a literal's number is in t, and how the walk comes to it. -/
theorem lit_at {n : Nat} {t : List Int} {l : Int} (ht : TV n t) (ok : LOk n l) (hn : n ≤ 65536) : ∃ (i : Nat) (x nl : Int), i < n ∧ i = at_ l ∧ t[i]? = some x ∧ IntKind.i64.wrap (-l) = nl ∧ max l nl = (i : Int) + 1 ∧ (x = 0 ↔ wo t l = 0) ∧ ((x == 1) == decide (0 < l)) = (if x = 0 then decide (l < 0) else isT t l) ∧ nl = -l := by
  have hx := wo_at ht ok
  have hi := at_lt ok
  refine ⟨at_ l, _, -l, hi, rfl, hx, wrap_in (by have := ok.2; omega) (by have := ok.2; omega), ?_, ?_, ?_, rfl⟩
  · unfold at_
    have := ok.1
    split <;> omega
  · unfold sg; split <;> omega
  · have h0 := ok.1
    rcases wo_cases ht l with e | e | e <;> unfold sg isT <;> rw [e] <;> by_cases hl : l < 0
    all_goals simp [hl]
    all_goals omega
set_option maxHeartbeats 1600000 in
theorem differ_any {n : Nat} {C T : Option Addr} {c t : List Int} {ccap tcap : Nat} (W : World) (hc : SeqAt (Value.int .i64) W C c) (hcl : c.length ≤ 9223372036854775807) (ht : SeqAt (Value.int .i64) W T t) (tv : TV n t) (ok : ∀ l ∈ c, LOk n l) (hn : n ≤ 65536) :
    Calls Tryz.prog 39 #[.slice C c.length ccap, .slice T t.length tcap] W (DifPost t c W) := by
  have HC := Lib.hid hc
  have HT := Lib.hid ht
  have TVH := Lib.hid tv
  have OK := Lib.hid ok
  have htl := tv.1
  clear hc ht tv ok
  go_enter Tryz.func39, Tryz.ntmps39
  go_wp2_with fail
  go_loop [5, 6] (fun v i => ∃ (k : Nat) (fs : Int), k ≤ c.length ∧ i = .int .i64 k ∧ v = .int .i64 fs ∧ Hid ((fs = 0 ∧ ∀ y ∈ c.take k, wo t y ≠ 0) ∨ (fs ≠ 0 ∧ fs ∈ c ∧ wo t fs = 0 ∧ ∀ y ∈ c.take k, wo t y = 0 → y = fs))) (fun _ i => c.length - (intOf i).toNat)
  case atStart => exact ⟨0, 0, by omega, rfl, rfl, .inl ⟨rfl, fun y hy => by simp at hy⟩⟩
  case round =>
    obtain ⟨k, fs, hk, rfl, rfl, G⟩ := hrel
    by_cases hlt : k < c.length
    · obtain ⟨l, hz⟩ : ∃ l, c[k]? = some l := ⟨_, List.getElem?_eq_getElem hlt⟩
      obtain ⟨a, rfl, hcl2⟩ := HC.out.get k l hz
      have hm := List.mem_of_getElem? hz
      have okl := OK.out l hm
      obtain ⟨i, x, nl, hi, -, hx, hw, hmx, h0, -, rfl⟩ := lit_at TVH.out okl hn
      obtain ⟨aT, rfl, hct⟩ := HT.out.get i x hx
      have hit : (i : Int) < (t.length : Int) := by omega
      have tk : ∀ y, y ∈ c.take (k + 1) ↔ y ∈ c.take k ∨ y = l := fun y => by
        rw [List.take_succ_eq_append_getElem hlt, (List.getElem?_eq_some_iff.1 hz).2]; simp
      by_cases hx0 : x = 0
      · have e1 : (x != 0) = false := by simpa using hx0
        have w0 := h0.1 hx0
        by_cases hf : fs = 0
        · have e2 : (fs == 0) = true := by simpa using hf
          have e3 : (l != l) = false := by simp
          have HE : Hid ((l = 0 ∧ ∀ y ∈ c.take (k + 1), wo t y ≠ 0) ∨ (l ≠ 0 ∧ l ∈ c ∧ wo t l = 0 ∧ ∀ y ∈ c.take (k + 1), wo t y = 0 → y = l)) := by
            refine .inr ⟨okl.1, hm, w0, fun y hy hy0 => ?_⟩
            rcases (tk y).1 hy with hy | hy
            · rcases G.out with ⟨_, h⟩ | ⟨h, _⟩
              · exact absurd hy0 (h y hy)
              · exact absurd hf h
            · exact hy
          clear hz hm okl hx h0 tk G hi w0
          go_wp2_with fail
          go_round
          case rel => exact ⟨k + 1, l, by omega, by go_num, rfl, HE.out⟩
          case measure => simp [intOf]; omega
        · have e2 : (fs == 0) = false := by simpa using hf
          by_cases hfl : l = fs
          · subst hfl
            have e3 : (l != l) = false := by simp
            have HE : Hid ((l = 0 ∧ ∀ y ∈ c.take (k + 1), wo t y ≠ 0) ∨ (l ≠ 0 ∧ l ∈ c ∧ wo t l = 0 ∧ ∀ y ∈ c.take (k + 1), wo t y = 0 → y = l)) := by
              refine .inr ⟨okl.1, hm, w0, fun y hy hy0 => ?_⟩
              rcases (tk y).1 hy with hy | hy
              · rcases G.out with ⟨h, _⟩ | ⟨_, _, _, h⟩
                · exact absurd h hf
                · exact h y hy hy0
              · exact hy
            clear hz hm okl hx h0 tk G hi w0
            go_wp2_with fail
            go_round
            case rel => exact ⟨k + 1, l, by omega, by go_num, rfl, HE.out⟩
            case measure => simp [intOf]; omega
          · have e3 : (l != fs) = true := by simpa using hfl
            have HE : Hid (Two t c) := by
              rcases G.out with ⟨h, _⟩ | ⟨_, h1, h2, _⟩
              · exact absurd h hf
              · exact ⟨l, hm, fs, h1, hfl, w0, h2⟩
            clear hz hm okl hx h0 tk G hi w0
            go_wp2_with fail
            go_ret
            exact ⟨⟨true, rfl, by simpa using HE.out⟩, rfl⟩
      · have e1 : (x != 0) = true := by simpa using hx0
        have w0 : wo t l ≠ 0 := fun e => hx0 (h0.2 e)
        have HE : Hid ((fs = 0 ∧ ∀ y ∈ c.take (k + 1), wo t y ≠ 0) ∨ (fs ≠ 0 ∧ fs ∈ c ∧ wo t fs = 0 ∧ ∀ y ∈ c.take (k + 1), wo t y = 0 → y = fs)) := by
          rcases G.out with ⟨h1, h2⟩ | ⟨h1, h2, h3, h4⟩
          · exact .inl ⟨h1, fun y hy => by rcases (tk y).1 hy with hy | rfl; exact h2 y hy; exact w0⟩
          · exact .inr ⟨h1, h2, h3, fun y hy hy0 => by rcases (tk y).1 hy with hy | rfl; exact h4 y hy hy0; exact absurd hy0 w0⟩
        clear hz hm okl hx h0 tk G hi w0
        go_wp2_with fail
        go_round
        case rel => exact ⟨k + 1, fs, by omega, by go_num, rfl, HE.out⟩
        case measure => simp [intOf]; omega
    · obtain rfl : c.length = k := by omega
      have HE : Hid (¬ Two t c) := by
        rintro ⟨x, hx, y, hy, hne, hx0, hy0⟩
        have := G.out
        rw [List.take_length] at this
        rcases this with ⟨_, h⟩ | ⟨_, _, _, h⟩
        · exact h x hx hx0
        · exact hne ((h x hx hx0).trans (h y hy hy0).symm)
      clear G
      go_wp2_with fail
      go_ret
      exact ⟨⟨false, rfl, by simpa using HE.out⟩, rfl⟩
theorem LRel.at {w wr : World} {e : TypeId} {A : Option Addr} {n cap : Nat} {l : List Value} (h : LRel w wr e (.slice A n cap) l) {i : Nat} {u : Value} (hu : l[i]? = some u) : ∃ g, A = some ⟨g, 0, none⟩ ∧ w.heap.size ≤ g ∧ wr.cell? ⟨g, i, none⟩ = some u ∧ wr.frozen? ⟨g, i, none⟩ = false ∧ n ≤ cap ∧ cap ≤ 9223372036854775807 ∧
    ∀ x : Value, LRel w (wr.setCell ⟨g, i, none⟩ x) e (.slice A n cap) (l.set i x) := by
  have hi := (List.getElem?_eq_some_iff.1 hu).1
  rcases h.own.2 with ⟨h1, h2⟩ | ⟨g, c, cur, h1, hb, hg, h2, h3, h4, h5⟩
  · omega
  · injection h1 with h1 h6 h7
    subst h1; subst h7
    rw [Nat.mul_one] at h4 h5
    refine ⟨g, rfl, hb, ?_, ?_, by omega, by unfold maxLen at h3; omega, fun x => ⟨⟨by simp, .inr ⟨g, cap, cur.setIfInBounds i x, by rw [List.length_set, ← h6], hb, ?_, by rw [List.length_set]; exact h2, h3, by simp; exact h4, ?_⟩⟩, h.below.setCell hb _⟩⟩
    · unfold World.cell?; rw [hg]
      rw [← h5, List.getElem?_take_of_lt hi] at hu
      simpa using hu
    · unfold World.frozen?; rw [hg]; simp
    · simp only [World.setCell, Array.getElem?_modify, hg, if_true]; simp
    · rw [List.length_set, Nat.mul_one, Array.toList_setIfInBounds, List.take_set, h5]
end Go.Proofs.YtcebpbjpbnfacaaGreat

/-
  Rows that unit's laws lay and turn round, and Run where nothing is assigned.
-/
namespace Go.Proofs.YtcebpbjpbnfacaaGreat
open Go.ChangeShapes Go.WideShapes Go.ChangeAt Go.RowKit
set_option linter.unusedVariables false

theorem u8_wf {a : Int} (h : (Lit.int .u8 a).wf = true) : 0 ≤ a ∧ a ≤ 255 := by
  simp [Lit.wf, IntKind.min, IntKind.max, IntKind.signed, IntKind.bits] at h
  omega
theorem rem_to (a : Int) (h0 : 0 ≤ a) (N : Nat) (hN : 0 < N) : ∃ k : Nat, a.tmod (N : Int) = k ∧ k < N := by
  have h1 := Int.tmod_nonneg (N : Int) h0
  have h2 := Int.tmod_lt_of_pos a (b := (N : Int)) (by omega)
  exact ⟨(a.tmod N).toNat, by omega, by omega⟩
theorem made_row {α : Type} (v : α → Value) (z : α) (k : Nat) : (madeCells #[v z] k).toList = (List.replicate k z).map v := by
  refine List.ext_getElem? fun i => ?_
  rw [List.getElem?_map, List.getElem?_replicate]
  by_cases hi : i < k
  · simp [madeCells, hi, Nat.mod_one]
  · simp [madeCells, hi]
theorem made_at (w : World) (k : Nat) {g : Nat} (hg : w.heap.size = g) : SeqAt (Value.int .i64) (w.alloc (.cells (madeCells #[.int .i64 0] k) 3)) (some ⟨g, 0, none⟩) (List.replicate k 0) := by
  subst hg
  refine ⟨fun i z hz => ⟨_, rfl, ?_⟩⟩
  rw [add_at, World.cell?_alloc_at _ _ _ _ rfl]
  have e : (madeCells #[Value.int .i64 0] k)[i]? = ((List.replicate k (0 : Int)).map (Value.int .i64))[i]? := by rw [← made_row (Value.int .i64)]; simp
  rw [e, List.getElem?_map, hz]; rfl
theorem zeros_unk (k : Nat) : (List.replicate k (0 : Int)).any unk = false := by
  rw [List.any_eq_false]
  intro x hx
  have := List.eq_of_mem_replicate hx
  subst this; decide
theorem fine_zeros {k : Nat} {f : List (List Int)} (h : mayM (k : Int) f = true) : fine (k : Int) f (List.replicate k 0) = true := by
  unfold fine; rw [h, List.length_replicate, zeros_unk]; simp
theorem run_zeros {A : Option Addr} {f : List (List Int)} {fcap k : Nat} (w : World) (hk : k ≤ 65536) (hf : FormAt w A f) (hfl : f.length ≤ 100000) (hcl : ∀ c ∈ f, c.length ≤ 100000) {g : Nat} (hg : w.heap.size = g) :
    Calls Tryz.prog 32 #[.int .i64 (k : Int), .slice A f.length fcap, .slice (some ⟨g, 0, none⟩) k k] (w.alloc (.cells (madeCells #[.int .i64 0] k) 3)) (RunPost (k : Int) f (List.replicate k 0) (w.alloc (.cells (madeCells #[.int .i64 0] k) 3))) := by
  have cr := run_any (A := A) (M := some ⟨g, 0, none⟩) (f := f) (m := List.replicate k 0) (fcap := fcap) (mcap := k) (k : Int) (w.alloc (.cells (madeCells #[.int .i64 0] k) 3)) (by unfold Wf; omega) (hf.keep ((Below.refl _ _).alloc (Nat.le_refl _) _)) hfl hcl (made_at w k hg) (by simp; omega) (fun h => by cases h)
  rw [List.length_replicate] at cr
  exact cr
theorem LRel.draws {w wr : World} {e : TypeId} {v : Value} {l : List Value} (h : LRel w wr e v l) (n : Nat) : LRel w (wr.drewN n) e v l := ⟨h.own, Below.draws h.below n⟩
theorem RowsOK.keep {w w' : World} {news : List Value} {f : List (List Int)} (h : RowsOK w news f) (b : Below w.heap.size w w') : RowsOK w' news f :=
  ⟨h.1, fun i c hc => by obtain ⟨B, cap, h1, h2, h3⟩ := h.2 i c hc; exact ⟨B, cap, h1, h2.keep b, h3⟩⟩
theorem own_form2 {w : World} {base : Nat} {X : Option Addr} {n cap : Nat} {news : List Value} {f : List (List Int)} (h : w.ownsRow base 37 1 (.slice X n cap) n news) (k : RowsOK w news f) (hw : ∀ c ∈ f, ∀ l ∈ c, Wf l) : FormAt w X f := by
  refine ⟨fun i c hc => ?_, fun a ha => ?_, hw⟩
  · obtain ⟨B, bcap, h1, h2, h3⟩ := k.2 i c hc
    have hi := (List.getElem?_eq_some_iff.1 h1).1
    have hn : news.length = n := by have := h.1; simpa using this
    rcases h.2 with ⟨h0, h4⟩ | ⟨g, c2, cur, h0, _, hg, _⟩
    · omega
    · injection h0 with h0 h5 h6; subst h0; subst h6
      refine ⟨_, B, bcap, rfl, ?_, h2, h3⟩
      rw [add_at, World.ownsRow.cellAt h i (by omega), h1]
  · rcases h.2 with ⟨h0, _⟩ | ⟨g, c2, cur, h0, _, hg, _⟩
    · injection h0 with h0; subst h0; cases ha
    · injection h0 with h0; subst h0; injection ha with ha; subst ha; exact lt_of_heap hg
theorem RowsOK.snoc {w : World} {news : List Value} {f : List (List Int)} {B : Option Addr} {cap : Nat} {c : List Int} (h : RowsOK w news f) (hs : SeqAt (Value.int .i64) w B c) (hl : c.length ≤ 9223372036854775807) : RowsOK w (news ++ [.slice B c.length cap]) (f ++ [c]) := by
  refine ⟨by rw [List.length_append, List.length_append, h.1]; rfl, fun i d hd => ?_⟩
  by_cases hi : i < f.length
  · rw [List.getElem?_append_left hi] at hd
    rw [List.getElem?_append_left (by rw [h.1]; exact hi)]; exact h.2 i d hd
  · have hi2 := (List.getElem?_eq_some_iff.1 hd).1
    simp at hi2
    obtain rfl : i = f.length := by omega
    simp at hd; subst hd
    exact ⟨B, cap, by rw [← h.1]; simp, hs, hl⟩
theorem RowsOK.swap {w : World} {news : List Value} {f : List (List Int)} {i j : Nat} {u v : Value} {c d : List Int} (h : RowsOK w news f) (hc : f[i]? = some c) (hd : f[j]? = some d) (hu : news[i]? = some u) (hv : news[j]? = some v) : RowsOK w ((news.set i v).set j u) ((f.set i d).set j c) := by
  refine ⟨by simp [h.1], fun q e he => ?_⟩
  have hi := (List.getElem?_eq_some_iff.1 hc).1
  have hj := (List.getElem?_eq_some_iff.1 hd).1
  by_cases e1 : q = j
  · subst e1
    rw [List.getElem?_set_self (by simp; exact hj)] at he
    rw [List.getElem?_set_self (by simp; rw [h.1]; exact hj)]
    injection he with he; subst he
    obtain ⟨B, cap, h1, h2⟩ := h.2 i _ hc
    rw [hu] at h1; injection h1 with h1
    exact ⟨B, cap, by rw [h1], h2⟩
  · rw [List.getElem?_set_ne (fun k => e1 k.symm)] at he ⊢
    by_cases e2 : q = i
    · subst e2
      rw [List.getElem?_set_self hi] at he
      rw [List.getElem?_set_self (by rw [h.1]; exact hi)]
      injection he with he; subst he
      obtain ⟨B, cap, h1, h2⟩ := h.2 j _ hd
      rw [hv] at h1; injection h1 with h1
      exact ⟨B, cap, by rw [h1], h2⟩
    · rw [List.getElem?_set_ne (fun k => e2 k.symm)] at he ⊢
      exact h.2 q e he
theorem mem_swap {α : Type} {f : List α} {i j : Nat} {c d : α} (hij : i ≠ j) (hc : f[i]? = some c) (hd : f[j]? = some d) (x : α) : x ∈ (f.set i d).set j c ↔ x ∈ f := by
  have hi := (List.getElem?_eq_some_iff.1 hc).1
  have hj := (List.getElem?_eq_some_iff.1 hd).1
  simp only [List.mem_iff_getElem?]
  constructor
  · rintro ⟨q, hq⟩
    by_cases e1 : q = j
    · subst e1; rw [List.getElem?_set_self (by simp; exact hj)] at hq; exact ⟨i, by rw [hc]; exact hq⟩
    · rw [List.getElem?_set_ne (fun k => e1 k.symm)] at hq
      by_cases e2 : q = i
      · subst e2; rw [List.getElem?_set_self hi] at hq; exact ⟨j, by rw [hd]; exact hq⟩
      · rw [List.getElem?_set_ne (fun k => e2 k.symm)] at hq; exact ⟨q, hq⟩
  · rintro ⟨q, hq⟩
    by_cases e1 : q = j
    · subst e1; refine ⟨i, ?_⟩
      rw [List.getElem?_set_ne (fun k => hij k.symm), List.getElem?_set_self hi, ← hq, hd]
    · by_cases e2 : q = i
      · subst e2; exact ⟨j, by rw [List.getElem?_set_self (by simp; exact hj), ← hq, hc]⟩
      · exact ⟨q, by rw [List.getElem?_set_ne (fun k => e1 k.symm), List.getElem?_set_ne (fun k => e2 k.symm)]; exact hq⟩
end Go.Proofs.YtcebpbjpbnfacaaGreat
