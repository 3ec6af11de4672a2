/-
  Parts of the proof, joined: UnitC, UnitD, UnitF.
-/
import Derived.Test.YtpmdnbdmocdngaaGreatMh07
import Derived.Deep.OwnRows
import Derived.Laws.AppendOwnNone
import Derived.Test.YtpmdnbdmocdngaaGreatMh38
import Derived.Deep.DeepCutAuto

namespace Go.Proofs.YtpmdnbdmocdngaaGreat
open Go.ChangeShapes Go.WideShapes Go.ChangeAt Go.RowKit
set_option linter.unusedVariables false

set_option maxHeartbeats 800000 in
theorem clone_any (A : Option Addr) (m : List Int) (cap : Nat) (W : World) (hm : SeqAt (Value.int .i64) W A m) (hl : m.length ≤ 65536) (hnil : A = none → m.length = 0 ∧ cap = 0) :
    Calls Tryz.prog 84 #[.slice A m.length cap] W fun e W' => ∃ v, e = .returned v ∧ LRel W W' 3 v (ints m) := by
  cases A with
  | none =>
    obtain ⟨h1, rfl⟩ := hnil rfl
    have hm0 : m = [] := List.eq_nil_of_length_eq_zero h1
    subst hm0
    go_enter Tryz.func84, Tryz.ntmps84
    have hq : ∀ w, (binOp .eql 36 (.slice none 0 0) (.slice none 0 0)).run Tryz.prog w = .ok (.bool true) w := fun w => by kernel_rfl
    go_wp2
    go_ret
    exact ⟨_, rfl, LRel.nil W _⟩
  | some a =>
    obtain ⟨i0, hi0, hz0, hz1, hz2⟩ := info_parts infoInt
    have HI := Lib.hid (show _ ∧ _ ∧ _ ∧ _ from ⟨hi0, hz0, hz1, hz2⟩)
    have BX : Below W.heap.size W (W.alloc (.cells #[] 3)) := (Below.refl _ _).alloc (Nat.le_refl _) _
    have HM := Lib.hid (hm.keep BX)
    have HBX := Lib.hid BX
    have HO : Hid ((W.alloc (.cells #[] 3)).ownsRow W.heap.size 3 1 (.slice (some ⟨W.heap.size, 0, none⟩) 0 0) 0 []) := ⟨rfl, .inr ⟨W.heap.size, 0, #[], rfl, Nat.le_refl _, new_heap W _, Nat.le_refl _, Nat.zero_le _, rfl, rfl⟩⟩
    clear hi0 hz0 hz1 hz2 hm BX hnil
    have hq : ∀ w, (binOp .eql 36 (.slice (some a) m.length cap) (.slice none 0 0)).run Tryz.prog w = .ok (.bool false) w := fun w => by kernel_rfl
    go_enter Tryz.func84, Tryz.ntmps84
    go_wp2_with (at_builtin; refine wpList_append_own _ rfl _ _ _ rfl W.heap.size 3 i0 _ 1 8 Tryz.underlying36 HI.out.1 HI.out.2.1 HI.out.2.2.1 HI.out.2.2.2 rfl (by omega) (.slice (some ⟨W.heap.size, 0, none⟩) 0 0) 0 [] rfl HO.out a m.length cap (ints m) rfl (by simp) (fun j u hu => by
      rw [List.getElem?_map] at hu
      obtain ⟨z, hz, rfl⟩ := Option.map_eq_some_iff.1 hu
      obtain ⟨a', ha, hc⟩ := HM.out.get j z hz
      injection ha with ha; subst ha; exact hc) (fun u hu => by obtain ⟨z, _, rfl⟩ := List.mem_map.1 hu; rfl) (by unfold maxLen; omega) (by omega) (by simp) ?_; intro v1 w1 hown1 hg1 _; have HO1 := Lib.hid hown1; have HG1 := Lib.hid hg1; clear hown1 hg1)
    go_ret
    refine ⟨v1, by first | rfl | skip, ?_, HBX.out.grown HG1.out (by simp) (fun k hk => by injection hk with hk; have hk' : W.heap.size = k := hk; omega)⟩
    have := HO1.out
    simp only [Nat.zero_add, List.nil_append] at this
    rw [List.length_map]; exact this
section
variable {B : Nat} {τ : Nat → Nat} {W : World} {p n : Nat} {cs : List (List Int)} {lf : List Int} {F : Nat → List Nat} {t hs : List Int} {cv lv wv tv hv : Value}
/-- One more literal holds from the first. -/
theorem held_fin {l : Int} (h : Ch B τ W p n cs lf F t hs cv lv wv tv hv) : ∀ (wp : World) (c g1 : Nat), (W.alloc (.cells #[.int .i64 l] 3)).grownBy wp hv.ownBlock → wp.ownsRow 0 3 1 (.slice (some ⟨g1, 0, none⟩) (hs.length + 1) c) (hs.length + 1) (ints hs ++ [.int .i64 l]) → (hv.ownBlock = some g1 ∨ g1 = W.heap.size + 1) → g1 < wp.heap.size →
    wp.cell? ⟨p, 4, none⟩ = some hv ∧ wp.frozen? ⟨p, 4, none⟩ = false ∧ ∃ τ' hv', Ch B τ' (wp.setCell ⟨p, 4, none⟩ (.slice (some ⟨g1, 0, none⟩) (hs.length + 1) c)) p n cs lf F t (hs ++ [l]) cv lv wv tv hv' ∧ Step (fun r => r = 1 ∨ r = 6) τ τ' W (wp.setCell ⟨p, 4, none⟩ (.slice (some ⟨g1, 0, none⟩) (hs.length + 1) c)) := fun wp c g1 hg ho hat hlt => by
  have b1 : Below W.heap.size W (W.alloc (.cells #[.int .i64 l] 3)) := (Below.refl _ _).alloc (Nat.le_refl _) _
  obtain ⟨τ', k1, k2⟩ := Ch.addH (h.below b1) hg ho (hat.imp id (fun e => by simp; omega)) hlt
  have hb := (h.below b1).blk.grown (h.below b1).hrow (by decide) hg
  exact ⟨hb.cell 4, hb.free 4, τ', _, k1, (Step.of_below _ _ b1).trans k2⟩
end
theorem lrel_form {w wr : World} {e : TypeId} {v : Value} {l : List Value} {n : Nat} (h : LRel w wr e v l) (hn : l.length = n) : ∃ B cap, v = .slice B n cap := by
  subst hn
  rcases h.own.2 with ⟨h1, h2⟩ | ⟨g, c2, cur, h1, _⟩
  · exact ⟨none, 0, by rw [h1, h2]⟩
  · exact ⟨_, _, h1⟩
/-- The chain as it is made: nothing but the truths and the places for clauses' numbers. -/
theorem new_ch {W w1 w2 : World} {p wb : Nat} {tv : Value} {m : List Int} (hB : W.heap.size ≤ wb) (hwb : w2.heap[wb]? = some (.cells (madeCells #[.slice none 0 0] (2 * m.length)) 36 (0, 0))) (ht : w2.ownsRow W.heap.size 3 1 tv m.length (ints m)) (hne : ∀ g, tv.ownBlock = some g → g ≠ wb ∧ g ≠ p)
    (hp : w2.heap[p]? = some (.cells #[.slice none 0 0, .slice none 0 0, .slice (some ⟨wb, 0, none⟩) (2 * m.length) (2 * m.length), tv, .slice none 0 0] 119 (0, 0))) (hpw : p ≠ wb) (hpB : W.heap.size ≤ p) (hb : Below W.heap.size W w2) :
    ∃ τ, Ch W.heap.size τ w2 p m.length [] [] (fun _ => []) m [] (.slice none 0 0) (.slice none 0 0) (.slice (some ⟨wb, 0, none⟩) (2 * m.length) (2 * m.length)) tv (.slice none 0 0) := by
  have nilrow : ∀ (τ : Nat → Nat) (r : Nat) (e : TypeId), Row τ r w2 e (.slice none 0 0) [] := fun τ r e => ⟨⟨rfl, .inl ⟨rfl, rfl⟩⟩, fun g hg => by cases hg⟩
  refine ⟨fun b => if b < W.heap.size then 0 else if b = p then 1 else if b = wb then 4 else 5, ⟨hb.size, fun b hb => by simp [hb], ⟨hp, by simp; omega⟩, ⟨[], nilrow _ _ _, rfl, fun i c hc => by simp at hc⟩, nilrow _ _ _, ⟨wb, _, rfl, ⟨hwb, ?_⟩, by simp [madeCells], fun q hq => ⟨.slice none 0 0, ?_, nilrow _ _ _⟩⟩, ⟨?_, fun g hg => ?_⟩, nilrow _ _ _⟩⟩
  · simp only [if_neg (show ¬ wb < W.heap.size by omega), if_neg (show ¬ wb = p from fun e => hpw e.symm), if_true]
  · simp [madeCells, hq, Nat.mod_one]
  · rw [List.length_map]
    refine ⟨ht.1, ?_⟩
    rcases ht.2 with h0 | ⟨g, c, cur, a, b, d⟩
    · exact .inl h0
    · exact .inr ⟨g, c, cur, a, Nat.zero_le _, d⟩
  · obtain ⟨h1, h2⟩ := hne g hg
    have hge : W.heap.size ≤ g := by
      rcases ht.2 with ⟨h0, _⟩ | ⟨g', c, cur, a, b, d⟩
      · rw [h0] at hg; cases hg
      · rw [a] at hg; injection hg with hg; have hg : g' = g := hg; omega
    simp only [if_neg (show ¬ g < W.heap.size by omega), if_neg h2, if_neg h1]
end Go.Proofs.YtpmdnbdmocdngaaGreat

namespace Go.Proofs.YtpmdnbdmocdngaaGreat
open Go.ChangeShapes Go.WideShapes Go.ChangeAt Go.RowKit
set_option linter.unusedVariables false

def NewC (W : World) (m : List Int) (p : Nat) (w2 : World) : Prop :=
  ∃ τ wb tv, Ch W.heap.size τ w2 p m.length [] [] (fun _ => []) m [] (.slice none 0 0) (.slice none 0 0) (.slice (some ⟨wb, 0, none⟩) (2 * m.length) (2 * m.length)) tv (.slice none 0 0) ∧ Below W.heap.size W w2
theorem own_mono {w : World} {b b' n : Nat} {e : TypeId} {v : Value} {xs : List Value} (h : w.ownsRow b e 1 v n xs) (hb : b' ≤ b) : w.ownsRow b' e 1 v n xs ∧ ∀ g, v.ownBlock = some g → b ≤ g ∧ g < w.heap.size := by
  refine ⟨⟨h.1, ?_⟩, fun g hg => ?_⟩
  · rcases h.2 with h0 | ⟨g, c, cur, a, b, d⟩
    · exact .inl h0
    · exact .inr ⟨g, c, cur, a, Nat.le_trans hb b, d⟩
  · rcases h.2 with ⟨h0, _⟩ | ⟨g', c, cur, a, b, d, _⟩
    · rw [h0] at hg; cases hg
    · rw [a] at hg; injection hg with hg; have hg' : g' = g := hg; subst hg'; exact ⟨b, lt_of_heap d⟩
theorem new_a {W w1 : World} {tv : Value} {m : List Int} (h : LRel (W.drew.alloc (.cells (madeCells #[.slice none 0 0] (2 * m.length)) 36)) w1 3 tv (ints m)) :
    NewC W m w1.heap.size (w1.alloc (.cells #[.slice none 0 0, .slice none 0 0, .slice (some ⟨W.heap.size, 0, none⟩) (2 * m.length) (2 * m.length), tv, .slice none 0 0] 119)) := by
  have ho := h.own
  rw [List.length_map] at ho
  have hsz : (W.drew.alloc (.cells (madeCells #[.slice none 0 0] (2 * m.length)) 36)).heap.size = W.heap.size + 1 := by show (W.heap.push _).size = _; simp
  rw [hsz] at ho
  obtain ⟨ho1, ho2⟩ := own_mono ho (Nat.le_succ _)
  have hs1 := h.below.size
  rw [hsz] at hs1
  have b0 : Below W.heap.size W (W.drew.alloc (.cells (madeCells #[.slice none 0 0] (2 * m.length)) 36)) := (Below.draws (Below.refl _ _) 1).alloc (Nat.le_refl _) _
  have b1 : Below W.heap.size W w1 := b0.trans (h.below.mono (by rw [hsz]; omega))
  obtain ⟨τ, k⟩ := new_ch (W := W) (w1 := w1) (w2 := w1.alloc (.cells #[.slice none 0 0, .slice none 0 0, .slice (some ⟨W.heap.size, 0, none⟩) (2 * m.length) (2 * m.length), tv, .slice none 0 0] 119)) (p := w1.heap.size) (wb := W.heap.size) (tv := tv) (m := m) (Nat.le_refl _)
    (by
      have e1 := h.below.block W.heap.size (by rw [hsz]; omega)
      have e2 := new_heap W.drew (.cells (madeCells #[.slice none 0 0] (2 * m.length)) 36)
      have b3 : Below w1.heap.size w1 (w1.alloc (.cells #[.slice none 0 0, .slice none 0 0, .slice (some ⟨W.heap.size, 0, none⟩) (2 * m.length) (2 * m.length), tv, .slice none 0 0] 119)) := (Below.refl _ _).alloc (Nat.le_refl _) _
      exact (b3.block _ (by omega)).trans (e1.trans e2))
    (ho1.alloc _) (fun g hg => by have := ho2 g hg; omega) (new_heap w1 _) (by omega) b1.size (b1.alloc b1.size _)
  exact ⟨τ, _, _, k, b1.alloc b1.size _⟩
theorem new_b {W w1 : World} {tv : Value} {m : List Int} (h : LRel W.drew w1 3 tv (ints m)) :
    NewC W m (w1.heap.size + 1) ((w1.alloc (.cells (madeCells #[.slice none 0 0] (2 * m.length)) 36)).alloc (.cells #[.slice none 0 0, .slice none 0 0, .slice (some ⟨w1.heap.size, 0, none⟩) (2 * m.length) (2 * m.length), tv, .slice none 0 0] 119)) := by
  have ho := h.own
  rw [List.length_map] at ho
  obtain ⟨ho1, ho2⟩ := own_mono ho (Nat.le_refl _)
  have b1 : Below W.heap.size W w1 := (Below.draws (Below.refl _ _) 1).trans h.below
  have hs : (w1.alloc (.cells (madeCells #[.slice none 0 0] (2 * m.length)) 36)).heap.size = w1.heap.size + 1 := by simp
  have b2 : Below W.heap.size W (w1.alloc (.cells (madeCells #[.slice none 0 0] (2 * m.length)) 36)) := b1.alloc b1.size _
  obtain ⟨τ, k⟩ := new_ch (W := W) (w1 := w1) (p := w1.heap.size + 1) (wb := w1.heap.size) (tv := tv) (m := m) b1.size
    (new_under (W := w1) (W' := (w1.alloc (.cells (madeCells #[.slice none 0 0] (2 * m.length)) 36)).alloc (.cells #[.slice none 0 0, .slice none 0 0, .slice (some ⟨w1.heap.size, 0, none⟩) (2 * m.length) (2 * m.length), tv, .slice none 0 0] 119)) rfl rfl)
    ((ho1.alloc _).alloc _) (fun g hg => by have := ho2 g hg; omega) (new_at (W := w1.alloc (.cells (madeCells #[.slice none 0 0] (2 * m.length)) 36)) hs rfl) (by omega) (by have := b1.size; omega) (b2.alloc b2.size _)
  exact ⟨τ, _, _, k, b2.alloc b2.size _⟩
def lens (cs : List (List Int)) : List Int := cs.map fun c => (c.length : Int)
def ChainPost (W : World) (f : List (List Int)) (m : List Int) (e : Ending) (w' : World) : Prop :=
  ∃ p τ F cv lv wv tv hv, e = .returned (ptr p) ∧ Ch W.heap.size τ w' p m.length (cls f) (lens (cls f)) F m (hs0 m) cv lv wv tv hv ∧ (∀ q, q < 2 * m.length → F q = wl (cls f) (un q)) ∧ Below W.heap.size W w'
theorem cls_len (f : List (List Int)) : (cls f).length ≤ f.length := by
  unfold cls; exact Nat.le_trans (List.length_filter_le _ _) (by simp)
theorem hs0_take {m : List Int} {i : Nat} {x : Int} (h : m[i]? = some x) : hs0 (m.take (i + 1)) = hs0 (m.take i) ++ if x = 0 then [] else [((i : Int) + 1) * x] := by
  obtain ⟨hi, hx⟩ := List.getElem?_eq_some_iff.1 h
  rw [List.take_succ_eq_append_getElem hi, hx, hs0_snoc, List.length_take, Nat.min_eq_left (by omega)]
theorem hs0_le (m : List Int) : (hs0 m).length ≤ m.length := by
  refine snoc_ind (p := fun m => (hs0 m).length ≤ m.length) (by simp [hs0]) (fun m x ih => ?_) m
  show (hs0 (m ++ [x])).length ≤ _
  have ih' : (hs0 m).length ≤ m.length := ih
  rw [hs0_snoc, List.length_append, List.length_append]
  split <;> simp <;> omega
theorem f_take {f : List (List Int)} {k : Nat} {c : List Int} (h : f[k]? = some c) : f.take (k + 1) = f.take k ++ [c] := by
  obtain ⟨hk, hc⟩ := List.getElem?_eq_some_iff.1 h
  rw [List.take_succ_eq_append_getElem hk, hc]
set_option maxHeartbeats 1600000 in
theorem chain_any {A M : Option Addr} {f : List (List Int)} {m : List Int} {fcap mcap : Nat} (W : World) (hf : FormAt W A f) (hfl : f.length ≤ 100000) (hcl : ∀ c ∈ f, c.length ≤ 100000) (hm : SeqAt (Value.int .i64) W M m) (hml : m.length ≤ 65536) (tvm : TV m.length m) (ok : FOk m.length f) (hnil : M = none → m.length = 0 ∧ mcap = 0) :
    Calls Tryz.prog 57 #[.slice A f.length fcap, .slice M m.length mcap] W (ChainPost W f m) := by
  have DR : Below W.heap.size W W.drew := Below.draws (Below.refl _ _) 1
  have DM : Below W.heap.size W (W.drew.alloc (.cells (madeCells #[.slice none 0 0] (2 * m.length)) 36)) := DR.alloc (Nat.le_refl _) _
  have CL := Lib.hid (fun X (b : Below W.heap.size W X) => clone_any M m mcap X (hm.keep b) hml hnil)
  have HF := Lib.hid hf
  have HCL := Lib.hid hcl
  have HM := Lib.hid hm
  have HT := Lib.hid tvm
  have OK := Lib.hid ok
  have HDR := Lib.hid DR
  have HDM := Lib.hid DM
  have hmk : ∀ w, (Instr.makeSlice 22 (.int .i64 (2 * (m.length : Int))) (.int .i64 (2 * (m.length : Int)))).run Tryz.prog w = .ok (.slice (some ⟨w.heap.size, 0, none⟩) (2 * m.length) (2 * m.length)) (w.alloc (.cells (madeCells #[.slice none 0 0] (2 * m.length)) 36)) := fun w => by
    have := run_make_row' (P := Tryz.prog) 22 36 (.slice none 0 0) 24 Tryz.underlying22 infoRow rfl .i64 .i64 (2 * m.length) (by omega) (by omega) w
    rwa [show ((2 * m.length : Nat) : Int) = 2 * (m.length : Int) by omega] at this
  have hw2 : IntKind.i64.wrap (2 * (m.length : Int)) = 2 * (m.length : Int) := wrap_in (by omega) (by omega)
  clear hf hcl hm tvm ok DR DM hnil
  go_enter Tryz.func57, Tryz.ntmps57
  go_wp2_with fail
  go_cut [5] (fun s5 wx => ∃ p, s5 = ptr p ∧ NewC W m p wx)
  case first =>
    go_region_law (first | (go_simp; go_at_call 84; refine (CL.out _ (by exact HDM.out)).mono ?_; rintro e w1 ⟨tv, rfl, hL⟩; obtain ⟨tA, tc, rfl⟩ := lrel_form hL (n := m.length) (by simp); have HL := Lib.hid hL; clear hL) | (go_simp; go_at_call 84; refine (CL.out _ (by exact HDR.out)).mono ?_; rintro e w1 ⟨tv, rfl, hL⟩; obtain ⟨tA, tc, rfl⟩ := lrel_form hL (n := m.length) (by simp); have HK := Lib.hid hL; clear hL) | fail)
    all_goals (go_wp2_with fail; go_meet; first | exact ⟨_, rfl, new_a HL.out⟩ | exact ⟨_, rfl, new_b HK.out⟩)
  case rest =>
    obtain ⟨p, rfl, τ0, wb, tv, h0, b0⟩ := hcut
    have H0 := Lib.hid h0
    have B0 := Lib.hid b0
    clear h0 b0 hmk hw2 CL HDR HDM
    obtain ⟨i0, hi0, hz0, hz1, hz2⟩ := info_parts infoInt
    have HI := Lib.hid (show _ ∧ _ ∧ _ ∧ _ from ⟨hi0, hz0, hz1, hz2⟩)
    clear hi0 hz0 hz1 hz2
    go_wp2_with fail
    go_loopw [20] (fun v wr => ∃ (i : Nat) (τ1 : Nat → Nat) (hv : Value), i ≤ m.length ∧ v = .int .i64 i ∧ Hid (Ch W.heap.size τ1 wr p m.length [] [] (fun _ => []) m (hs0 (m.take i)) (.slice none 0 0) (.slice none 0 0) (.slice (some ⟨wb, 0, none⟩) (2 * m.length) (2 * m.length)) tv hv) ∧ Hid (Below W.heap.size W wr)) (fun v _ => m.length - (intOf v).toNat)
    case atStart => exact ⟨0, τ0, _, by omega, rfl, by rw [List.take_zero]; exact H0.out, B0.out⟩
    case round =>
      clear H0 B0
      obtain ⟨i, τ1, hv, hi, rfl, H1, B1⟩ := hrel
      by_cases hlt : i < m.length
      · obtain ⟨x, hz⟩ : ∃ x, m[i]? = some x := ⟨_, List.getElem?_eq_getElem hlt⟩
        obtain ⟨a, rfl, hcx⟩ := (HM.out.keep B1.out).get i x hz
        have hx := HT.out.2 i x hz
        have HE := Lib.hid (hs0_take hz)
        by_cases hx0 : x = 0
        · subst hx0
          rw [if_pos rfl, List.append_nil] at HE
          clear hz hx
          go_wp2_with fail
          go_roundw
          case rel => exact ⟨i + 1, τ1, hv, by omega, by go_num, by rw [HE.out]; exact H1.out, B1.out⟩
          case measure => simp [intOf]; omega
        · rw [if_neg hx0] at HE
          have hw3 : IntKind.i64.wrap (((i : Int) + 1) * x) = ((i : Int) + 1) * x := by rcases hx with rfl | rfl | rfl <;> exact wrap_in (by omega) (by omega)
          obtain ⟨y, hy⟩ : ∃ y, y = ((i : Int) + 1) * x := ⟨_, rfl⟩
          rw [← hy] at hw3 HE
          have hw4 : IntKind.i64.wrap (((i : Int) + 1) * x) = y := by rw [← hy]; exact hw3
          have hlen : (hs0 (m.take i)).length ≤ 65536 := by have := hs0_le (m.take i); rw [List.length_take] at this; omega
          obtain ⟨hA, hcap, hform⟩ : ∃ A c, hv = .slice A (hs0 (m.take i)).length c := by have := H1.out.hrow.form; rwa [List.length_map] at this
          subst hform
          generalize hs0 (m.take i) = hs at *
          have c4 : wr.cell? ⟨p, 4, none⟩ = some (.slice hA hs.length hcap) := H1.out.blk.cell 4
          have HO : Hid (wr.ownsRow 0 3 1 (.slice hA hs.length hcap) hs.length (ints hs)) := by have := H1.out.hrow.1; rw [List.length_map] at this; exact this
          have FIN := Lib.hid (held_fin (l := y) H1.out)
          have xne : (x != 0) = true := by simpa using hx0
          have xne2 : (x == 0) = false := by simpa using hx0
          clear hz hx hw3 hy
          go_wp2_with (at_builtin; refine wpList_append_lies _ rfl _ _ _ rfl 0 3 i0 _ 1 8 Tryz.underlying36 HI.out.1 HI.out.2.1 HI.out.2.2.1 HI.out.2.2.2 rfl (by omega) (.slice hA hs.length hcap) hs.length (ints hs) rfl (HO.out.alloc _) ⟨wr.heap.size, 0, none⟩ 1 1 [.int .i64 y] rfl rfl (World.news_of_block (cs := #[.int .i64 y]) (t := 3) (fr := (0, 0)) (new_heap wr _)) (by simp [Value.oneCell']) (by omega) (by unfold maxLen; omega) (by omega) (Nat.zero_le _) (wr.heap.size + 1) (by simp) ?_; intro g1 c1 wp hown1 hg1 hat1 hlt1; have HFN := FIN.out wp c1 g1 hg1 hown1 hat1 hlt1; have c5 := HFN.1; have f5 := HFN.2.1; have HFF := Lib.hid HFN.2.2; clear hown1 hg1 hat1 hlt1 HFN)
          go_roundw
          case rel =>
            obtain ⟨τ2, hv2, k2, s2⟩ := HFF.out
            exact ⟨i + 1, τ2, hv2, by omega, by go_num, by rw [HE.out]; exact k2, B1.out.trans (s2.below H1.out.base (fun k hk h => by rw [H1.out.low k hk] at h; omega))⟩
          case measure => simp [intOf]; omega
      · obtain rfl : m.length = i := by omega
        have H2 : Hid (Ch W.heap.size τ1 wr p m.length (cls (f.take 0)) (lens (cls (f.take 0))) (fun _ => []) m (hs0 m) (.slice none 0 0) (.slice none 0 0) (.slice (some ⟨wb, 0, none⟩) (2 * m.length) (2 * m.length)) tv hv) := by have := H1.out; rw [List.take_length] at this; exact this
        clear H1 hlt hi
        go_wp2_with fail
        go_loopw [43] (fun v wx => ∃ (k : Nat) (τ2 : Nat → Nat) (F : Nat → List Nat) (cv lv : Value), k ≤ f.length ∧ v = .int .i64 k ∧ Hid (Ch W.heap.size τ2 wx p m.length (cls (f.take k)) (lens (cls (f.take k))) F m (hs0 m) cv lv (.slice (some ⟨wb, 0, none⟩) (2 * m.length) (2 * m.length)) tv hv) ∧ Hid (∀ q, q < 2 * m.length → F q = wl (cls (f.take k)) (un q)) ∧ Hid (Below W.heap.size W wx)) (fun v _ => f.length - (intOf v).toNat)
        case atStart => exact ⟨0, τ1, _, _, _, by omega, rfl, H2.out, fun q _ => rfl, B1.out⟩
        case round =>
          clear H2 B1
          obtain ⟨k, τ2, F, cv, lv, hk, rfl, H2, F2, B2⟩ := hrel
          by_cases hlt : k < f.length
          · obtain ⟨c, hz⟩ : ∃ c, f[k]? = some c := ⟨_, List.getElem?_eq_getElem hlt⟩
            obtain ⟨a, C, ccap, rfl, hcc, hcs, _⟩ := (HF.out.keep B2.out).get k c hz
            have hmem := List.mem_of_getElem? hz
            have hle : (cls (f.take k)).length < 100000 := by have := cls_len (f.take k); rw [List.length_take] at this; omega
            have cad := Lib.hid (add_any (A := C) (c := c) (cap := ccap) H2.out F2.out hcs (OK.out c hmem) hml hle (by unfold lens; rw [List.length_map]) (HCL.out c hmem))
            have NXT : Hid (∀ w3, AddPost W.heap.size τ2 wr p m.length (cls (f.take k)) (lens (cls (f.take k))) m (hs0 m) c (.slice (some ⟨wb, 0, none⟩) (2 * m.length) (2 * m.length)) tv hv w3 → ∃ (τ3 : Nat → Nat) (F3 : Nat → List Nat) (cv3 lv3 : Value), Hid (Ch W.heap.size τ3 w3 p m.length (cls (f.take (k + 1))) (lens (cls (f.take (k + 1)))) F3 m (hs0 m) cv3 lv3 (.slice (some ⟨wb, 0, none⟩) (2 * m.length) (2 * m.length)) tv hv) ∧ Hid (∀ q, q < 2 * m.length → F3 q = wl (cls (f.take (k + 1))) (un q)) ∧ Hid (Below W.heap.size W w3)) := by
              have low : ∀ (τ3 : Nat → Nat) (w3 : World), Step RA τ2 τ3 wr w3 → Below W.heap.size W w3 := fun τ3 w3 s => B2.out.trans (s.below H2.out.base (fun k hk h => by rw [H2.out.low k hk] at h; simp only [RA] at h; omega))
              rintro w3 (⟨ht, τ3, cv3, lv3, F3, k3, f3, s3⟩ | ⟨ht, τ3, cv3, lv3, F3, k3, f3, s3⟩)
              · have e := cls_no (f := f.take k) ht
                rw [f_take hz, e]
                exact ⟨τ3, F3, cv3, lv3, k3, f3, low _ _ s3⟩
              · have e := cls_yes (f := f.take k) ht
                rw [f_take hz, e]
                refine ⟨τ3, F3, cv3, lv3, ?_, f3, low _ _ s3⟩
                unfold lens at k3 ⊢
                rw [List.map_append]; exact k3
            clear hz hcs hmem
            go_wp2_with fail
            refine cad.out.mono ?_
            rintro e w3 ⟨rfl, hp3⟩
            obtain ⟨τ3, F3, cv3, lv3, k3, f3, b3⟩ := NXT.out w3 hp3
            clear hp3 NXT cad
            go_wp2_with fail
            go_roundw
            case rel => exact ⟨k + 1, τ3, F3, cv3, lv3, by omega, by go_num, k3.out, f3.out, b3.out⟩
            case measure => simp [intOf]; omega
          · obtain rfl : f.length = k := by omega
            go_wp2_with fail
            go_ret
            exact ⟨p, τ2, F, cv, lv, _, tv, hv, rfl, by have := H2.out; rw [List.take_length] at this; exact this, by have := F2.out; rw [List.take_length] at this; exact this, B2.out⟩
end Go.Proofs.YtpmdnbdmocdngaaGreat

namespace Go.Proofs.YtpmdnbdmocdngaaGreat
open Go.ChangeShapes Go.WideShapes Go.ChangeAt Go.RowKit
set_option linter.unusedVariables false
section
variable {B : Nat} {τ : Nat → Nat} {W : World} {p n : Nat} {cs : List (List Int)} {F : Nat → List Nat} {cv lv wv tv hv : Value} {m : List Int}
set_option maxHeartbeats 1600000 in
theorem follow_any {lf t hs : List Int} (h : Ch B τ W p n cs lf F t hs cv lv wv tv hv) (fw : Fw n cs m t hs (fun _ => []) lf (fun _ => False)) (hF : ∀ q, q < 2 * n → F q = wl cs (un q)) (ok : FOk n cs) (hnd : ∀ c ∈ cs, c.Nodup) (hn : n ≤ 65536) (hcs : cs.length ≤ 100000) (hcl : ∀ c ∈ cs, c.length ≤ 100000) :
    Calls Tryz.prog 58 #[ptr p] W (FollowPost B τ W p n cs F cv lv wv tv m) := by
  have H := Lib.hid h
  have FW := Lib.hid fw
  have OK := Lib.hid ok
  have ND := Lib.hid hnd
  have CL := Lib.hid hcl
  have HF := Lib.hid hF
  obtain ⟨cA, ccap, hcv⟩ := h.clausesForm
  have c0 : W.cell? ⟨p, 0, none⟩ = some cv := h.blk.cell 0
  have hlen : lf.length = cs.length := fw.len
  clear h fw ok hnd hcl hF
  subst hcv
  go_enter Tryz.func58, Tryz.ntmps58
  go_wp2_with fail
  go_loopw [12] (fun v wr => ∃ (j : Nat) (τ1 : Nat → Nat) (t1 hs1 : List Int) (hv1 : Value), j ≤ cs.length ∧ v = .int .i64 j ∧ Hid (Ch B τ1 wr p n cs lf F t1 hs1 (.slice cA cs.length ccap) lv wv tv hv1) ∧ Hid (Fw n cs m t1 hs1 (fun _ => []) lf (fun i => i < j)) ∧ Hid (Step RF τ τ1 W wr)) (fun v _ => cs.length - (intOf v).toNat)
  case atStart => exact ⟨0, τ, t, hs, hv, by omega, rfl, H.out, FW.out.weak (fun j hj => by omega), Step.refl _ _ _⟩
  case round =>
    obtain ⟨j, τ1, t1, hs1, hv1, hj, rfl, H1, FW1, ST⟩ := hrel
    by_cases hlt : j < cs.length
    · obtain ⟨c, hz⟩ : ∃ c, cs[j]? = some c := ⟨_, List.getElem?_eq_getElem hlt⟩
      have cl := settle_any H1.out FW1.out OK.out hn hz hcs (CL.out c (List.mem_of_getElem? hz))
      clear hz
      go_wp2_with fail
      refine cl.mono ?_
      rintro e w1 (⟨rfl, τ2, t2, ex, hv2, h2, f2, s2⟩ | ⟨rfl, hans, rfl⟩)
      · have H2 := Lib.hid h2
        have F2 := Lib.hid f2
        have S2 := Lib.hid (ST.out.trans s2)
        clear h2 f2 s2 cl
        go_wp2_with fail
        go_roundw
        case rel => exact ⟨j + 1, τ2, t2, _, hv2, by omega, by go_num, H2.out, F2.out.weak (fun i hi => by omega), S2.out⟩
        case measure => simp [intOf]; omega
      · have HA := Lib.hid hans
        clear hans cl
        go_wp2_with fail
        go_ret
        exact .inr ⟨rfl, HA.out, τ1, ST.out⟩
    · obtain rfl : cs.length = j := by omega
      have FW2 := Lib.hid (show Fw n cs m t1 hs1 (fun _ => hs1.take 0) lf (fun _ => True) from
        ⟨FW1.out.st, FW1.out.up, FW1.out.low, FW1.out.len, FW1.out.left, (fun i x hx => by simp at hx), fun i c _ hc => FW1.out.set i c (List.getElem?_eq_some_iff.1 hc).1 hc⟩)
      clear FW1 FW H hlt hj c0
      go_wp2_with fail
      go_loopw [4] (fun v wr => ∃ (k : Nat) (τ2 : Nat → Nat) (t2 hs2 lf2 : List Int) (hv2 : Value), k ≤ hs2.length ∧ hs2.length ≤ n ∧ v = .int .i64 k ∧ Hid (Ch B τ2 wr p n cs lf2 F t2 hs2 (.slice cA cs.length ccap) lv wv tv hv2) ∧ Hid (Fw n cs m t2 hs2 (fun _ => hs2.take k) lf2 (fun _ => True)) ∧ Hid (Step RF τ τ2 W wr)) (fun v _ => n - (intOf v).toNat)
      case atStart => exact ⟨0, τ1, t1, hs1, lf, hv1, by omega, FW2.out.st.le, rfl, H1.out, FW2.out, ST.out⟩
      case round =>
        clear H1 FW2 ST hlen
        obtain ⟨k, τ2, t2, hs2, lf2, hv2, hk, hk2, rfl, H2, F2, S2⟩ := hrel
        by_cases hlt : k < hs2.length
        · obtain ⟨x, hz⟩ : ∃ x, hs2[k]? = some x := ⟨_, List.getElem?_eq_getElem hlt⟩
          obtain ⟨hg, hcap, hhv, hcx, hcap1, hcap2⟩ := H2.out.heldAt hz
          have okx := (F2.out.st.ok x (List.mem_of_getElem? hz)).1
          obtain ⟨e1, e2⟩ := un_pl okx.neg
          have xb : -65536 ≤ x ∧ x ≤ 65536 := by have := okx.2; omega
          have cp := fun W => place_any (-x) W okx.neg hn
          obtain ⟨wb, A, wcap, hwv, hcw, hrow⟩ := H2.out.withAt e2
          have hFq := HF.out _ e2
          rw [e1] at hFq
          have c2 : wr.cell? ⟨p, 2, none⟩ = some wv := H2.out.blk.cell 2
          have c4 : wr.cell? ⟨p, 4, none⟩ = some hv2 := H2.out.blk.cell 4
          rw [hFq] at hcw hrow
          obtain ⟨ws, hws⟩ : ∃ ws, ws = wl cs (-x) := ⟨_, rfl⟩
          rw [← hws] at hcw hrow
          have WS := Lib.hid hws
          have HR := Lib.hid hrow
          have HZ := Lib.hid hz
          have HX : Hid (x ∈ hs2 ∧ x ∉ hs2.take k ∧ hs2.take (k + 1) = hs2.take k ++ [x] ∧ ∀ y ∈ hs2.take k, y ∈ hs2) := by
            have hz' := (List.getElem?_eq_some_iff.1 hz).2
            refine ⟨List.mem_of_getElem? hz, fun hm => ?_, by rw [List.take_succ_eq_append_getElem hlt, hz'], fun y hy => List.mem_of_mem_take hy⟩
            obtain ⟨a, ha, e⟩ := List.mem_iff_getElem.1 hm
            rw [List.length_take] at ha
            rw [List.getElem_take, ← hz'] at e
            have := (List.getElem_inj F2.out.st.once).1 e
            omega
          have wsl : ws.length ≤ 100000 := by rw [hws]; unfold wl; exact Nat.le_trans (List.length_filter_le _ _) (by simp; exact hcs)
          obtain ⟨q, hq⟩ : ∃ q, q = pl (-x) := ⟨_, rfl⟩
          rw [← hq] at hcw e2 cp HR
          obtain ⟨nx, hnx⟩ : ∃ nx, nx = -x := ⟨_, rfl⟩
          have hnw : IntKind.i64.wrap (-x) = nx := by rw [hnx]; exact wrap_in (by omega) (by omega)
          rw [← hnx] at cp
          have CP := Lib.hid cp
          have q1 : (q : Int) < 2 * (n : Int) := by omega
          subst hhv
          subst hwv
          clear hz okx e1 hFq hrow hws hq hnx cp xb
          go_wp2_with fail
          go_quiet ((go_at_call 87; with_reducible exact calm_one CP.out))
          have BQ : Below wr.heap.size wr (wr.drewN nq) := Below.draws (Below.refl _ _) nq
          have H3 := Lib.hid (H2.out.below BQ)
          have S3 := Lib.hid (S2.out.trans (Step.of_below RF τ2 BQ))
          have R3 := Lib.hid (HR.out.step (Step.of_below RF τ2 BQ) (by omega))
          clear BQ hcx hcw c2 c4 H2 S2 HR CP hnw
          generalize wr.drewN nq = wq at *
          go_wp2_with fail
          go_loopw [45] (fun v wi => ∃ (j : Nat) (τ3 : Nat → Nat) (t3 ex lf3 : List Int) (hv3 : Value), j ≤ ws.length ∧ v = .int .i64 j ∧ Hid (Ch B τ3 wi p n cs lf3 F t3 (hs2 ++ ex) (.slice cA cs.length ccap) lv (.slice (some ⟨wb, 0, none⟩) (2 * n) (2 * n)) tv hv3) ∧ Hid (Fw n cs m t3 (hs2 ++ ex) (DD (hs2.take k) x (ws.take j)) lf3 (fun _ => True)) ∧ Hid (Step RF τ τ3 W wi) ∧ Hid (Row τ3 (8 + q) wi 3 (.slice A ws.length wcap) (nats ws))) (fun v _ => ws.length - (intOf v).toNat)
          case atStart => exact ⟨0, τ2, t2, [], lf2, _, by omega, rfl, by rw [List.append_nil]; exact H3.out, by rw [List.append_nil]; exact F2.out.begin_, S3.out, R3.out⟩
          case round =>
            clear H3 S3 R3 F2
            obtain ⟨j, τ3, t3, ex, lf3, hv3, hj, rfl, H3, F3, S3, R3⟩ := hrel
            by_cases hlt2 : j < ws.length
            · obtain ⟨i, hi⟩ : ∃ i, ws[j]? = some i := ⟨_, List.getElem?_eq_getElem hlt2⟩
              obtain ⟨c, hc, _⟩ := wl_mem.1 (by rw [← WS.out]; exact List.mem_of_getElem? hi : i ∈ wl cs (-x))
              obtain ⟨hlf, G3⟩ := F3.out.next ND.out WS.out hi hc (List.mem_append_left _ HX.out.1) HX.out.2.1
              obtain ⟨ga, gcap, hA, _, hca, _, gc1, gc2⟩ := R3.out.cells j (.int .i64 i) (by rw [List.getElem?_map, hi]; rfl)
              rw [List.length_map] at hA gc1
              injection hA with hA _ hA2
              subst hA
              subst hA2
              obtain ⟨lg, lcap, hlv, hcl2, hfl, lc1, lc2⟩ := H3.out.leftAt hlf
              have c1 : wr.cell? ⟨p, 1, none⟩ = some lv := H3.out.blk.cell 1
              have hil : i < lf3.length := (List.getElem?_eq_some_iff.1 hlf).1
              have hic : i < cs.length := (List.getElem?_eq_some_iff.1 hc).1
              obtain ⟨h4, s4⟩ := H3.out.setL hlv hil ((cnt (hs2.take k) c : Int) - 1)
              have hcnt : cnt (hs2.take k) c ≤ 100000 := Nat.le_trans (List.length_filter_le _ _) (CL.out c (List.mem_of_getElem? hc))
              have cl := settle_any h4 G3 OK.out hn hc hcs (CL.out c (List.mem_of_getElem? hc))
              have CLL := Lib.hid cl
              have S4 := Lib.hid (S3.out.trans (s4.mono (fun r h => .inr (.inl h))))
              have R4 := Lib.hid (R3.out.step s4 (by omega))
              have hll : lf3.length ≤ 100000 := by have := F3.out.len; omega
              clear cl s4 h4 hlf G3 hi hc H3 F3 S3 R3
              subst hlv
              generalize cnt (hs2.take k) c = kc at *
              go_wp2_with fail
              refine CLL.out.mono ?_
              rintro e w1 (⟨rfl, τ5, t5, ex5, hv5, h5, f5, s5⟩ | ⟨rfl, hans, rfl⟩)
              · have H5 := Lib.hid h5
                have F5 := Lib.hid f5
                have S5 := Lib.hid (S4.out.trans s5)
                have R5 := Lib.hid (R4.out.step s5 (by omega))
                clear h5 f5 s5 CLL S4 R4
                go_wp2_with fail
                go_roundw
                case rel => exact ⟨j + 1, τ5, t5, ex ++ ex5, _, hv5, by omega, by go_num, by rw [← List.append_assoc]; exact H5.out, by rw [← List.append_assoc]; exact F5.out.weak (fun i' _ => (Classical.em (i' = i)).elim (fun e => .inr e) (fun e => .inl ⟨trivial, e⟩)), S5.out, R5.out⟩
                case measure => simp [intOf]; omega
              · have HA := Lib.hid hans
                clear hans CLL
                go_wp2_with fail
                go_ret
                exact .inr ⟨rfl, HA.out, τ3, S4.out⟩
            · have F4 := Lib.hid (F3.out.end_ (by omega) WS.out (List.mem_append_left _ HX.out.1) (fun y hy => List.mem_append_left _ (HX.out.2.2.2 y hy)))
              have hle := F4.out.st.le
              have HT : Hid ((hs2 ++ ex).take (k + 1) = hs2.take k ++ [x]) := by show _ = _; rw [List.take_append_of_le_length (by omega)]; exact HX.out.2.2.1
              clear F3 R3
              go_wp2_with fail
              go_roundw
              case rel => exact ⟨k + 1, τ3, t3, hs2 ++ ex, lf3, hv3, by rw [List.length_append]; omega, hle, by go_num, H3.out, by rw [HT.out]; exact F4.out, S3.out⟩
              case measure => simp [intOf]; omega
        · obtain rfl : hs2.length = k := by omega
          have HA := Lib.hid (show Ans n cs m (some t2) from by have := F2.out; rw [List.take_length] at this; exact this.done OK.out ND.out)
          obtain ⟨hA, hcap, hhv⟩ := H2.out.heldForm
          have c4 : wr.cell? ⟨p, 4, none⟩ = some hv2 := H2.out.blk.cell 4
          subst hhv
          clear F2
          go_wp2_with fail
          go_ret
          exact .inl ⟨rfl, τ2, t2, hs2, lf2, _, H2.out, HA.out, S2.out⟩
end
end Go.Proofs.YtpmdnbdmocdngaaGreat
