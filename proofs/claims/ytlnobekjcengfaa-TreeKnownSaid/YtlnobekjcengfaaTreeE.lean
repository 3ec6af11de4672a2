/-
  Deeds, as they lie; whether they are few.
-/
import Derived.Test.YtlnobekjcengfaaTreeU
namespace Go.Proofs.Ytlnobekjcengfaa
open Go.ChangeShapes Go.WideShapes Go.ChangeAt Go.RowKit Go.Joins
set_option linter.unusedVariables false
set_option linter.unusedSimpArgs false

def DdAt (w : World) (v : Value) (ds : List Dd) : Prop := ∃ A cap, v = .slice A ds.length cap ∧
  ∀ (k : Nat) d, ds[k]? = some d → ∃ g off, A = some ⟨g, off, none⟩ ∧ w.cell? ⟨g, off + k * 4, none⟩ = some (.int .i64 d.k) ∧ w.cell? ⟨g, off + k * 4 + 1, none⟩ = some (.string d.p) ∧ w.cell? ⟨g, off + k * 4 + 2, none⟩ = some (.string d.q) ∧ w.cell? ⟨g, off + k * 4 + 3, none⟩ = some (.bool d.d)
theorem DdAt.on {w w' : World} {v : Value} {ds : List Dd} (h : DdAt w v ds) (G : Gw w w') : DdAt w' v ds := by
  obtain ⟨A, cap, h1, h2⟩ := h
  refine ⟨A, cap, h1, fun k d hd => ?_⟩
  obtain ⟨g, off, a, b, c, e, f⟩ := h2 k d hd
  exact ⟨g, off, a, G.cell b, G.cell c, G.cell e, G.cell f⟩
/-- Few deeds, few entries, short texts. -/
def Few (es : List (List UInt8 × Bool)) (ds : List Dd) : Prop := es.length ≤ 101 ∧ ds.length ≤ 101 ∧ (∀ e ∈ es, e.1.length ≤ 100) ∧ ∀ d ∈ ds, d.p.size ≤ 100 ∧ d.q.size ≤ 100
abbrev SmP (es : List (List UInt8 × Bool)) (ds : List Dd) (W : World) (e : Ending) (W' : World) : Prop := ∃ b, e = .returned (.bool b) ∧ W' = W ∧ (b = true → Few es ds)
theorem sm_no {es : List (List UInt8 × Bool)} {ds : List Dd} {W : World} : SmP es ds W (.returned (.bool false)) W := ⟨false, rfl, rfl, fun h => by cases h⟩
theorem take_next {α : Type} {P : α → Prop} {l : List α} {k : Nat} {a : α} (h : l[k]? = some a) (H : ∀ d ∈ l.take k, P d) (ha : P a) : ∀ d ∈ l.take (k + 1), P d := by
  obtain ⟨hi, he⟩ := List.getElem?_eq_some_iff.1 h
  intro d hd
  rw [List.take_succ_eq_append_getElem hi, he] at hd
  rcases List.mem_append.1 hd with hd | hd
  · exact H d hd
  · rw [List.mem_singleton.1 hd]; exact ha
set_option maxRecDepth 100000 in
set_option maxHeartbeats 8000000 in
theorem few_any {W : World} {x y : Value} {es : List (List UInt8 × Bool)} {ds : List Dd} (hx : EntAt W x es) (hy : DdAt W y ds) (hes : es.length ≤ 9223372036854775807) (hds : ds.length ≤ 9223372036854775807) :
    Calls Try.prog 9 #[x, y] W (SmP es ds W) := by
  obtain ⟨A, ca, rfl, hE⟩ := hx
  obtain ⟨B, cb, rfl, hD⟩ := hy
  obtain ⟨N, hN⟩ : ∃ N, N = ds.length := ⟨_, rfl⟩
  obtain ⟨M, hM⟩ : ∃ M, M = es.length := ⟨_, rfl⟩
  have HN := Lib.hid hN
  have HM := Lib.hid hM
  have HE := Lib.hid hE
  have HD := Lib.hid hD
  rw [← hN] at hds ⊢
  rw [← hM] at hes ⊢
  clear hN hM hE hD
  go_enter Try.func9, Try.ntmps9
  go_upto_region 2 with fail
  go_loopw [5] (fun i wr => ∃ k : Nat, k ≤ N ∧ i = .int .i64 k ∧ W = wr ∧ Hid (k ≤ 101 ∧ ∀ d ∈ ds.take k, d.p.size ≤ 100 ∧ d.q.size ≤ 100)) (fun i _ => N - (intOf i).toNat)
  case atStart => exact ⟨0, by omega, rfl, rfl, by omega, fun d hd => by simp at hd⟩
  case round =>
    obtain ⟨k, hk, rfl, rfl, HK⟩ := hrel
    by_cases hlt : k < N
    · obtain ⟨d, hd⟩ : ∃ d, ds[k]? = some d := ⟨_, List.getElem?_eq_getElem (by rw [← HN.out]; exact hlt)⟩
      obtain ⟨g, off, rfl, d0, d1, d2, d3⟩ := HD.out k d hd
      have HNX := Lib.hid (fun (h1 : k ≤ 100) (h2 : d.p.size ≤ 100 ∧ d.q.size ≤ 100) => And.intro (show k + 1 ≤ 101 by omega) (take_next (P := fun d => d.p.size ≤ 100 ∧ d.q.size ≤ 100) hd HK.out.2 h2))
      obtain ⟨dk, p, q, dd⟩ := d
      simp only at d0 d1 d2 d3
      clear hd d0 d3
      by_cases h1 : 100 < k
      · have e1 : decide ((100 : Int) < (k : Int)) = true := decide_eq_true (by omega)
        have e1' : 100 < k := h1
        go_wp2
        go_ret
        exact sm_no
      have e1 : decide ((100 : Int) < (k : Int)) = false := decide_eq_false (by omega)
      by_cases h2 : 100 < p.size
      · have e2 : decide ((100 : Int) < (p.size : Int)) = true := decide_eq_true (by omega)
        go_wp2
        go_ret
        exact sm_no
      have e2 : decide ((100 : Int) < (p.size : Int)) = false := decide_eq_false (by omega)
      by_cases h3 : 100 < q.size
      · have e3 : decide ((100 : Int) < (q.size : Int)) = true := decide_eq_true (by omega)
        go_wp2
        go_ret
        exact sm_no
      have e3 : decide ((100 : Int) < (q.size : Int)) = false := decide_eq_false (by omega)
      go_wp2
      go_roundw
      case rel => exact ⟨k + 1, by omega, by go_num, trivial, HNX.out (by omega) ⟨by simp only; omega, by simp only; omega⟩⟩
      case measure => simp [intOf]; omega
    · have hkN : k = N := by omega
      have HDS : Hid (ds.length ≤ 101 ∧ ∀ d ∈ ds, d.p.size ≤ 100 ∧ d.q.size ≤ 100) := by
        have := HK.out
        rw [hkN, HN.out, List.take_length] at this
        exact this
      have hlt' : decide ((k : Int) < (N : Int)) = false := decide_eq_false (by omega)
      clear HK hkN
      go_upto_region 7 with fail
      go_loopw [6] (fun i wr => ∃ k : Nat, k ≤ M ∧ i = .int .i64 k ∧ W = wr ∧ Hid (k ≤ 101 ∧ ∀ e ∈ es.take k, e.1.length ≤ 100)) (fun i _ => M - (intOf i).toNat)
      case atStart => exact ⟨0, by omega, rfl, rfl, by omega, fun d hd => by simp at hd⟩
      case round =>
        obtain ⟨j, hj, rfl, rfl, HK⟩ := hrel
        by_cases hjl : j < M
        · obtain ⟨e, he⟩ : ∃ e, es[j]? = some e := ⟨_, List.getElem?_eq_getElem (by rw [← HM.out]; exact hjl)⟩
          obtain ⟨g, off, rfl, d0, d1, _⟩ := HE.out j e he
          have HNX := Lib.hid (fun (h1 : j ≤ 100) (h2 : e.1.length ≤ 100) => And.intro (show j + 1 ≤ 101 by omega) (take_next (P := fun e : List UInt8 × Bool => e.1.length ≤ 100) he HK.out.2 h2))
          obtain ⟨p, dd⟩ := e
          simp only at d0 HNX
          have hps := bs_size p
          have HPS := Lib.hid hps
          generalize bs p = sp at *
          clear he d1 hps
          by_cases h1 : 100 < j
          · have e1 : decide ((100 : Int) < (j : Int)) = true := decide_eq_true (by omega)
            go_wp2
            go_ret
            exact sm_no
          have e1 : decide ((100 : Int) < (j : Int)) = false := decide_eq_false (by omega)
          by_cases h2 : 100 < sp.size
          · have e2 : decide ((100 : Int) < (sp.size : Int)) = true := decide_eq_true (by omega)
            go_wp2
            go_ret
            exact sm_no
          have e2 : decide ((100 : Int) < (sp.size : Int)) = false := decide_eq_false (by omega)
          go_wp2
          go_roundw
          case rel => exact ⟨j + 1, by omega, by go_num, trivial, HNX.out (by omega) (by have := HPS.out; omega)⟩
          case measure => simp [intOf]; omega
        · have hjM : j = M := by omega
          have HES : Hid (es.length ≤ 101 ∧ ∀ e ∈ es, e.1.length ≤ 100) := by
            have := HK.out
            rw [hjM, HM.out, List.take_length] at this
            exact this
          have hjl' : decide ((j : Int) < (M : Int)) = false := decide_eq_false (by omega)
          clear HK hjM
          go_wp2
          go_ret
          exact ⟨true, rfl, rfl, fun _ => ⟨HES.out.1, HDS.out.1, HES.out.2, HDS.out.2⟩⟩
end Go.Proofs.Ytlnobekjcengfaa
