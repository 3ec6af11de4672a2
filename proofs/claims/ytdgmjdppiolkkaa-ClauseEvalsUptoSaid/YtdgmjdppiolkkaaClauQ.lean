/-
  signs and Pure of package clause: what stands in a formula, and what stands one way alone.
-/
import Derived.Test.YtdgmjdppiolkkaaClauN
import Derived.Deep.OwnRows
namespace Go.Proofs.Ytdgmjdppiolkkaa
open Go.ChangeShapes Go.WideShapes Go.ChangeAt Go.RowKit
set_option linter.unusedVariables false

/-! ### A block that is known -/
def Has (w : World) (g : Nat) (t : TypeId) (cs : Array Value) : Prop := w.heap[g]? = some (.cells cs t (0, 0))
section
variable {w w' : World} {g : Nat} {t : TypeId} {cs : Array Value}
theorem Has.lt (h : Has w g t cs) : g < w.heap.size := lt_of_heap h
theorem Has.cell (h : Has w g t cs) (i : Nat) : w.cell? ⟨g, i, none⟩ = cs[i]? := by unfold World.cell?; rw [show w.heap[g]? = _ from h]; rfl
theorem Has.free (h : Has w g t cs) (i : Nat) : w.frozen? ⟨g, i, none⟩ = false := by unfold World.frozen?; rw [show w.heap[g]? = _ from h]; simp
theorem Has.new (w : World) (t : TypeId) (cs : Array Value) : Has (w.alloc (.cells cs t)) w.heap.size t cs := new_heap w _
theorem Has.same (h : Has w g t cs) (e : w'.heap[g]? = w.heap[g]?) : Has w' g t cs := Eq.trans e h
theorem Has.keep (h : Has w g t cs) (b : Below w.heap.size w w') : Has w' g t cs := h.same (b.block g h.lt)
theorem Has.put (h : Has w g t cs) (i : Nat) (u : Value) : Has (w.setCell ⟨g, i, none⟩ u) g t (cs.setIfInBounds i u) := by
  unfold Has at *
  simp only [World.setCell, Array.getElem?_modify, h, if_true]
  simp
end

/-! ### Signs -/
def code (P : List Int) (v : Nat) : Int := (if (v : Int) ∈ P then 1 else 0) + (if -(v : Int) ∈ P then 2 else 0)
def sgArr (P : List Int) (n : Nat) : Array Value := ⟨(List.range n).map fun v => .int .i64 (code P v)⟩
theorem sgArr_get {P : List Int} {n v : Nat} (h : v < n) : (sgArr P n)[v]? = some (.int .i64 (code P v)) := by simp [sgArr, h]
theorem sgArr_nil (n : Nat) : sgArr [] n = madeCells #[Value.int .i64 0] n := by
  apply Array.ext'
  rw [toList_madeCells_one]
  unfold sgArr code
  apply List.ext_getElem?
  intro i
  by_cases h : i < n <;> simp [h]
theorem code_plain {P : List Int} {v : Nat} (hv : 1 ≤ v) : bits .or .i64 (code P v) 1 = code (P ++ [(v : Int)]) v := by
  unfold code
  have h1 : ¬ -(v : Int) = (v : Int) := by omega
  by_cases a : (v : Int) ∈ P <;> by_cases b : -(v : Int) ∈ P <;> simp [a, b, h1] <;> decide
theorem code_turned {P : List Int} {v : Nat} (hv : 1 ≤ v) : bits .or .i64 (code P v) 2 = code (P ++ [-(v : Int)]) v := by
  unfold code
  have h1 : ¬ (v : Int) = -(v : Int) := by omega
  by_cases a : (v : Int) ∈ P <;> by_cases b : -(v : Int) ∈ P <;> simp [a, b, h1] <;> decide
theorem code_other {P : List Int} {l : Int} {u : Nat} (h1 : (u : Int) ≠ l) (h2 : -(u : Int) ≠ l) : code (P ++ [l]) u = code P u := by
  unfold code; simp [h1, h2]
theorem sg_put {P : List Int} {n v : Nat} {l x : Int} (hv : v < n) (h1 : 1 ≤ v) (hl : l = v ∨ l = -(v : Int)) (hx : x = code (P ++ [l]) v) : (sgArr P n).setIfInBounds v (.int .i64 x) = sgArr (P ++ [l]) n := by
  apply Array.ext'
  rw [Array.toList_setIfInBounds]
  apply List.ext_getElem?
  intro i
  by_cases e : v = i
  · subst e; rw [List.getElem?_set_self (by simp [sgArr]; omega)]; simp [sgArr, hv, hx]
  · rw [List.getElem?_set_ne e]
    by_cases hi : i < n
    · simp only [sgArr, List.getElem?_map, List.getElem?_range hi, Option.map_some]
      rw [code_other (by omega) (by omega)]
    · simp [sgArr, hi]
structure SRel (w wr : World) (g N : Nat) (P : List Int) : Prop where
  has : Has wr g 3 (sgArr P N)
  ge : w.heap.size ≤ g
  below : Below w.heap.size w wr
theorem SRel.put {w wr : World} {g N : Nat} {P : List Int} (h : SRel w wr g N P) {v : Nat} {l x : Int} (hv : v < N) (h1 : 1 ≤ v) (hl : l = v ∨ l = -(v : Int)) (hx : x = code (P ++ [l]) v) : SRel w (wr.setCell ⟨g, v, none⟩ (.int .i64 x)) g N (P ++ [l]) :=
  ⟨by have := h.has.put v (.int .i64 x); rwa [sg_put hv h1 hl hx] at this, h.ge, h.below.setCell h.ge _⟩
def SignsPost (f : List (List Int)) (n : Nat) (w : World) (e : Ending) (w' : World) : Prop := ∃ g, e = .returned (.slice (some ⟨g, 0, none⟩) (n + 1) (n + 1)) ∧ SRel w w' g (n + 1) f.flatten
theorem flat_take {f : List (List Int)} {k : Nat} {c : List Int} (h : f[k]? = some c) : (f.take (k + 1)).flatten = (f.take k).flatten ++ c := by
  have hk := (List.getElem?_eq_some_iff.1 h)
  obtain ⟨hk, hk'⟩ := hk
  rw [List.take_succ_eq_append_getElem hk, List.flatten_append, hk']; simp
theorem take_one {c : List Int} {j : Nat} {l : Int} (h : c[j]? = some l) (P : List Int) : P ++ c.take (j + 1) = (P ++ c.take j) ++ [l] := by
  have hk := (List.getElem?_eq_some_iff.1 h)
  obtain ⟨hk, hk'⟩ := hk
  rw [List.take_succ_eq_append_getElem hk, hk', List.append_assoc]
theorem ok_cases {n : Nat} {l : Int} (hw : Wf l) (h : okL n l = true) : ∃ v : Nat, 1 ≤ v ∧ v ≤ n ∧ (l = v ∨ l = -(v : Int)) := by
  unfold okL at h
  rw [decide_eq_true_iff] at h
  refine ⟨(numb l).toNat, by omega, by omega, ?_⟩
  have := numb_cases hw
  omega
theorem okF_mem {n : Int} {f : List (List Int)} (h : okF n f = true) {c : List Int} (hc : c ∈ f) {l : Int} (hl : l ∈ c) : okL n l = true :=
  List.all_eq_true.1 (List.all_eq_true.1 h c hc) l hl
set_option maxHeartbeats 1600000 in
theorem signs_any (n : Nat) (A : Option Addr) (f : List (List Int)) (fcap : Nat) (w : World) (hn : n ≤ 65536) (hf : FormAt w A f) (hl : f.length ≤ 9223372036854775807) (hok : okF n f = true) :
    Calls Try.prog 24 #[.int .i64 n, .slice A f.length fcap] w (SignsPost f n w) := by
  have HF := Lib.hid hf
  have HK := Lib.hid hok
  clear hf hok
  have hmk : ∀ w, (Instr.makeSlice 27 (.int .i64 ((n : Int) + 1)) (.int .i64 ((n : Int) + 1))).run Try.prog w = .ok (.slice (some ⟨w.heap.size, 0, none⟩) (n + 1) (n + 1)) (w.alloc (.cells (madeCells #[Value.int .i64 0] (n + 1)) 3)) :=
    fun w => run_make_row' (P := Try.prog) 27 3 (.int .i64 0) 8 Try.underlying27 infoInt rfl .i64 .i64 (n + 1) (by omega) (by omega) w
  have H0 := Lib.hid (show SRel w (w.alloc (.cells (madeCells #[Value.int .i64 0] (n + 1)) 3)) w.heap.size (n + 1) [] from ⟨by rw [sgArr_nil]; exact Has.new w _ _, Nat.le_refl _, (Below.refl _ _).alloc (Nat.le_refl _) _⟩)
  go_enter Try.func24, Try.ntmps24
  go_wp2_with fail
  generalize w.alloc (.cells (madeCells #[Value.int .i64 0] (n + 1)) 3) = w1 at H0 ⊢
  go_loopw [15] (fun i wr => ∃ k : Nat, k ≤ f.length ∧ i = .int .i64 k ∧ Hid (SRel w wr w.heap.size (n + 1) (f.take k).flatten)) (fun i _ => f.length - (intOf i).toNat)
  case atStart => exact ⟨0, by omega, rfl, H0.out⟩
  case round =>
    obtain ⟨k, hk, rfl, R⟩ := hrel
    by_cases hlt : k < f.length
    · obtain ⟨c, hz⟩ : ∃ c, f[k]? = some c := ⟨_, List.getElem?_eq_getElem hlt⟩
      obtain ⟨a, C, ccap, rfl, hcell, hcs, hcl⟩ := (HF.out.keep R.out.below).get k c hz
      have hcs0 := (HF.out.get k c hz)
      obtain ⟨a0, C0, ccap0, ha0, hcell0, hcs0, hcl0⟩ := hcs0
      have HW := Lib.hid (HF.out.wf c (List.mem_of_getElem? hz))
      have HO := Lib.hid (fun l (hl : l ∈ c) => okF_mem HK.out (List.mem_of_getElem? hz) hl)
      have HE := Lib.hid (flat_take hz)
      have hbe := R.out.below
      have hcell' : w.cell? (a.add k) = some (.slice C c.length ccap) := by
        rw [← hcell]; exact (hbe.cell (p := a.add k) (by rw [add_block]; exact HF.out.lt a rfl)).symm
      injection ha0 with ha0
      subst ha0
      rw [hcell'] at hcell0
      injection hcell0 with e1
      injection e1 with e1 e2 e3
      subst e1
      have HS := Lib.hid hcs0
      clear hcs hz hcs0 hbe hcell' e2 e3 hcl0
      obtain ⟨wo, rfl⟩ : ∃ wo : World, wo = wr := ⟨_, rfl⟩
      go_wp2_with fail
      go_loopw [21] (fun i wr => ∃ j : Nat, j ≤ c.length ∧ i = .int .i64 j ∧ Hid (SRel w wr w.heap.size (n + 1) ((f.take k).flatten ++ c.take j))) (fun i _ => c.length - (intOf i).toNat)
      case atStart => exact ⟨0, by omega, rfl, by simp only [List.take_zero, List.append_nil]; exact R⟩
      case round =>
        obtain ⟨j, hj, rfl, G⟩ := hrel
        by_cases hjl : j < c.length
        · obtain ⟨l, hz⟩ : ∃ l, c[j]? = some l := ⟨_, List.getElem?_eq_getElem hjl⟩
          obtain ⟨aC, rfl, hcc⟩ := (HS.out.keep G.out.below).get j l hz
          obtain ⟨v, v1, v2, v3⟩ := ok_cases (HW.out l (List.mem_of_getElem? hz)) (HO.out l (List.mem_of_getElem? hz))
          have HZ := Lib.hid (take_one hz (f.take k).flatten)
          have hcg : wr.cell? ⟨w.heap.size, v, none⟩ = some (.int .i64 (code ((f.take k).flatten ++ c.take j) v)) := by rw [G.out.has.cell, sgArr_get (by omega)]
          have hfg := G.out.has.free v
          have i1 : (v : Int) < (n : Int) + 1 := by omega
          have i2 : (1 : Int) ≤ (v : Int) := by omega
          clear hz
          generalize (f.take k).flatten ++ c.take j = P at *
          rcases v3 with rfl | rfl
          · have hb := code_plain (P := P) v1
            have HP := Lib.hid (G.out.put (v := v) (x := bits .or .i64 (code P v) 1) (by omega) v1 (.inl rfl) hb)
            clear hb
            generalize code P v = x at *
            go_wp2_with fail
            go_roundw
            case rel => exact ⟨j + 1, by omega, by go_num, by rw [HZ.out]; exact HP.out⟩
            case measure => simp [intOf]; omega
          · have hb := code_turned (P := P) v1
            have HP := Lib.hid (G.out.put (v := v) (x := bits .or .i64 (code P v) 2) (by omega) v1 (.inr rfl) hb)
            clear hb
            generalize code P v = x at *
            go_wp2_with fail
            go_roundw
            case rel => exact ⟨j + 1, by omega, by go_num, by rw [HZ.out]; exact HP.out⟩
            case measure => simp [intOf]; omega
        · obtain rfl : j = c.length := by omega
          have HZ := Lib.hid (show (f.take k).flatten ++ c.take c.length = (f.take (k + 1)).flatten by rw [List.take_length, HE.out])
          go_wp2_with fail
          go_roundw
          case rel => exact ⟨k + 1, by omega, by go_num, by rw [← HZ.out]; exact G⟩
          case measure => simp [intOf]; omega
    · obtain rfl : k = f.length := by omega
      have HE := Lib.hid (show f.take f.length = f from List.take_length)
      go_wp2_with fail
      go_ret
      exact ⟨_, rfl, by have := R.out; rw [HE.out] at this; exact this⟩
end Go.Proofs.Ytdgmjdppiolkkaa
