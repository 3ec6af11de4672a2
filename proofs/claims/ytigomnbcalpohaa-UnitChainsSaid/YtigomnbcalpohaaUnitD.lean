/-
  newChain of package unit: the chain of a formula, and what holds from the first.
-/
import Derived.Test.YtigomnbcalpohaaUnitA
import Derived.Test.YtigomnbcalpohaaUnitC
import Derived.Deep.DeepCutAuto
namespace Go.Proofs.Ytigomnbcalpohaa
open Go.ChangeShapes Go.WideShapes Go.ChangeAt Go.RowKit
set_option linter.unusedVariables false

def NewC (W : World) (m : List Int) (p : Nat) (w2 : World) : Prop :=
  ∃ τ wb tv, Ch W.heap.size τ w2 p m.length [] [] (fun _ => []) m [] (.slice none 0 0) (.slice none 0 0) (.slice (some ⟨wb, 0, none⟩) (2 * m.length) (2 * m.length)) tv (.slice none 0 0) ∧ Below W.heap.size W w2
theorem own_mono {w : World} {b b' n : Nat} {e : TypeId} {v : Value} {xs : List Value} (h : w.ownsRow b e 1 v n xs) (hb : b' ≤ b) : w.ownsRow b' e 1 v n xs ∧ ∀ g, v.ownBlock = some g → b ≤ g ∧ g < w.heap.size := by
  refine ⟨⟨h.1, ?_⟩, fun g hg => ?_⟩
  · rcases h.2 with h0 | ⟨g, c, cur, a, b, d⟩
    · exact .inl h0
    · exact .inr ⟨g, c, cur, a, Nat.le_trans hb b, d⟩
  · rcases h.2 with ⟨h0, _⟩ | ⟨g', c, cur, a, b, d, _⟩
    · rw [h0] at hg; cases hg
    · rw [a] at hg; injection hg with hg; have hg' : g' = g := hg; subst hg'; exact ⟨b, lt_of_heap d⟩
theorem new_a {W w1 : World} {tv : Value} {m : List Int} (h : LRel (W.drew.alloc (.cells (madeCells #[.slice none 0 0] (2 * m.length)) 23)) w1 3 tv (ints m)) :
    NewC W m w1.heap.size (w1.alloc (.cells #[.slice none 0 0, .slice none 0 0, .slice (some ⟨W.heap.size, 0, none⟩) (2 * m.length) (2 * m.length), tv, .slice none 0 0] 47)) := by
  have ho := h.own
  rw [List.length_map] at ho
  have hsz : (W.drew.alloc (.cells (madeCells #[.slice none 0 0] (2 * m.length)) 23)).heap.size = W.heap.size + 1 := by show (W.heap.push _).size = _; simp
  rw [hsz] at ho
  obtain ⟨ho1, ho2⟩ := own_mono ho (Nat.le_succ _)
  have hs1 := h.below.size
  rw [hsz] at hs1
  have b0 : Below W.heap.size W (W.drew.alloc (.cells (madeCells #[.slice none 0 0] (2 * m.length)) 23)) := (Below.draws (Below.refl _ _) 1).alloc (Nat.le_refl _) _
  have b1 : Below W.heap.size W w1 := b0.trans (h.below.mono (by rw [hsz]; omega))
  obtain ⟨τ, k⟩ := new_ch (W := W) (w1 := w1) (w2 := w1.alloc (.cells #[.slice none 0 0, .slice none 0 0, .slice (some ⟨W.heap.size, 0, none⟩) (2 * m.length) (2 * m.length), tv, .slice none 0 0] 47)) (p := w1.heap.size) (wb := W.heap.size) (tv := tv) (m := m) (Nat.le_refl _)
    (by
      have e1 := h.below.block W.heap.size (by rw [hsz]; omega)
      have e2 := new_heap W.drew (.cells (madeCells #[.slice none 0 0] (2 * m.length)) 23)
      have b3 : Below w1.heap.size w1 (w1.alloc (.cells #[.slice none 0 0, .slice none 0 0, .slice (some ⟨W.heap.size, 0, none⟩) (2 * m.length) (2 * m.length), tv, .slice none 0 0] 47)) := (Below.refl _ _).alloc (Nat.le_refl _) _
      exact (b3.block _ (by omega)).trans (e1.trans e2))
    (ho1.alloc _) (fun g hg => by have := ho2 g hg; omega) (new_heap w1 _) (by omega) b1.size (b1.alloc b1.size _)
  exact ⟨τ, _, _, k, b1.alloc b1.size _⟩
theorem new_b {W w1 : World} {tv : Value} {m : List Int} (h : LRel W.drew w1 3 tv (ints m)) :
    NewC W m (w1.heap.size + 1) ((w1.alloc (.cells (madeCells #[.slice none 0 0] (2 * m.length)) 23)).alloc (.cells #[.slice none 0 0, .slice none 0 0, .slice (some ⟨w1.heap.size, 0, none⟩) (2 * m.length) (2 * m.length), tv, .slice none 0 0] 47)) := by
  have ho := h.own
  rw [List.length_map] at ho
  obtain ⟨ho1, ho2⟩ := own_mono ho (Nat.le_refl _)
  have b1 : Below W.heap.size W w1 := (Below.draws (Below.refl _ _) 1).trans h.below
  have hs : (w1.alloc (.cells (madeCells #[.slice none 0 0] (2 * m.length)) 23)).heap.size = w1.heap.size + 1 := by simp
  have b2 : Below W.heap.size W (w1.alloc (.cells (madeCells #[.slice none 0 0] (2 * m.length)) 23)) := b1.alloc b1.size _
  obtain ⟨τ, k⟩ := new_ch (W := W) (w1 := w1) (p := w1.heap.size + 1) (wb := w1.heap.size) (tv := tv) (m := m) b1.size
    (new_under (W := w1) (W' := (w1.alloc (.cells (madeCells #[.slice none 0 0] (2 * m.length)) 23)).alloc (.cells #[.slice none 0 0, .slice none 0 0, .slice (some ⟨w1.heap.size, 0, none⟩) (2 * m.length) (2 * m.length), tv, .slice none 0 0] 47)) rfl rfl)
    ((ho1.alloc _).alloc _) (fun g hg => by have := ho2 g hg; omega) (new_at (W := w1.alloc (.cells (madeCells #[.slice none 0 0] (2 * m.length)) 23)) hs rfl) (by omega) (by have := b1.size; omega) (b2.alloc b2.size _)
  exact ⟨τ, _, _, k, b2.alloc b2.size _⟩
def lens (cs : List (List Int)) : List Int := cs.map fun c => (c.length : Int)
def ChainPost (W : World) (f : List (List Int)) (m : List Int) (e : Ending) (w' : World) : Prop :=
  ∃ p τ F cv lv wv tv hv, e = .returned (ptr p) ∧ Ch W.heap.size τ w' p m.length (cls f) (lens (cls f)) F m (hs0 m) cv lv wv tv hv ∧ (∀ q, q < 2 * m.length → F q = wl (cls f) (un q)) ∧ Below W.heap.size W w'
theorem cls_len (f : List (List Int)) : (cls f).length ≤ f.length := by
  unfold cls; exact Nat.le_trans (List.length_filter_le _ _) (by simp)
theorem hs0_take {m : List Int} {i : Nat} {x : Int} (h : m[i]? = some x) : hs0 (m.take (i + 1)) = hs0 (m.take i) ++ if x = 0 then [] else [((i : Int) + 1) * x] := by
  obtain ⟨hi, hx⟩ := List.getElem?_eq_some_iff.1 h
  rw [List.take_succ_eq_append_getElem hi, hx, hs0_snoc, List.length_take, Nat.min_eq_left (by omega)]
theorem hs0_le (m : List Int) : (hs0 m).length ≤ m.length := by
  refine snoc_ind (p := fun m => (hs0 m).length ≤ m.length) (by simp [hs0]) (fun m x ih => ?_) m
  show (hs0 (m ++ [x])).length ≤ _
  have ih' : (hs0 m).length ≤ m.length := ih
  rw [hs0_snoc, List.length_append, List.length_append]
  split <;> simp <;> omega
theorem f_take {f : List (List Int)} {k : Nat} {c : List Int} (h : f[k]? = some c) : f.take (k + 1) = f.take k ++ [c] := by
  obtain ⟨hk, hc⟩ := List.getElem?_eq_some_iff.1 h
  rw [List.take_succ_eq_append_getElem hk, hc]
set_option maxHeartbeats 1600000 in
theorem chain_any {A M : Option Addr} {f : List (List Int)} {m : List Int} {fcap mcap : Nat} (W : World) (hf : FormAt W A f) (hfl : f.length ≤ 100000) (hcl : ∀ c ∈ f, c.length ≤ 100000) (hm : SeqAt (Value.int .i64) W M m) (hml : m.length ≤ 65536) (tvm : TV m.length m) (ok : FOk m.length f) (hnil : M = none → m.length = 0 ∧ mcap = 0) :
    Calls Try.prog 19 #[.slice A f.length fcap, .slice M m.length mcap] W (ChainPost W f m) := by
  have DR : Below W.heap.size W W.drew := Below.draws (Below.refl _ _) 1
  have DM : Below W.heap.size W (W.drew.alloc (.cells (madeCells #[.slice none 0 0] (2 * m.length)) 23)) := DR.alloc (Nat.le_refl _) _
  have CL := Lib.hid (fun X (b : Below W.heap.size W X) => clone_any M m mcap X (hm.keep b) hml hnil)
  have HF := Lib.hid hf
  have HCL := Lib.hid hcl
  have HM := Lib.hid hm
  have HT := Lib.hid tvm
  have OK := Lib.hid ok
  have HDR := Lib.hid DR
  have HDM := Lib.hid DM
  have hmk : ∀ w, (Instr.makeSlice 22 (.int .i64 (2 * (m.length : Int))) (.int .i64 (2 * (m.length : Int)))).run Try.prog w = .ok (.slice (some ⟨w.heap.size, 0, none⟩) (2 * m.length) (2 * m.length)) (w.alloc (.cells (madeCells #[.slice none 0 0] (2 * m.length)) 23)) := fun w => by
    have := run_make_row' (P := Try.prog) 22 23 (.slice none 0 0) 24 Try.underlying22 infoRow rfl .i64 .i64 (2 * m.length) (by omega) (by omega) w
    rwa [show ((2 * m.length : Nat) : Int) = 2 * (m.length : Int) by omega] at this
  have hw2 : IntKind.i64.wrap (2 * (m.length : Int)) = 2 * (m.length : Int) := wrap_in (by omega) (by omega)
  clear hf hcl hm tvm ok DR DM hnil
  go_enter Try.func19, Try.ntmps19
  go_wp2_with fail
  go_cut [5] (fun s5 wx => ∃ p, s5 = ptr p ∧ NewC W m p wx)
  case first =>
    go_region_law (first | (go_simp; go_at_call 25; refine (CL.out _ (by exact HDM.out)).mono ?_; rintro e w1 ⟨tv, rfl, hL⟩; obtain ⟨tA, tc, rfl⟩ := lrel_form hL (n := m.length) (by simp); have HL := Lib.hid hL; clear hL) | (go_simp; go_at_call 25; refine (CL.out _ (by exact HDR.out)).mono ?_; rintro e w1 ⟨tv, rfl, hL⟩; obtain ⟨tA, tc, rfl⟩ := lrel_form hL (n := m.length) (by simp); have HK := Lib.hid hL; clear hL) | fail)
    all_goals (go_wp2_with fail; go_meet; first | exact ⟨_, rfl, new_a HL.out⟩ | exact ⟨_, rfl, new_b HK.out⟩)
  case rest =>
    obtain ⟨p, rfl, τ0, wb, tv, h0, b0⟩ := hcut
    have H0 := Lib.hid h0
    have B0 := Lib.hid b0
    clear h0 b0 hmk hw2 CL HDR HDM
    obtain ⟨i0, hi0, hz0, hz1, hz2⟩ := info_parts infoInt
    have HI := Lib.hid (show _ ∧ _ ∧ _ ∧ _ from ⟨hi0, hz0, hz1, hz2⟩)
    clear hi0 hz0 hz1 hz2
    go_wp2_with fail
    go_loopw [20] (fun v wr => ∃ (i : Nat) (τ1 : Nat → Nat) (hv : Value), i ≤ m.length ∧ v = .int .i64 i ∧ Hid (Ch W.heap.size τ1 wr p m.length [] [] (fun _ => []) m (hs0 (m.take i)) (.slice none 0 0) (.slice none 0 0) (.slice (some ⟨wb, 0, none⟩) (2 * m.length) (2 * m.length)) tv hv) ∧ Hid (Below W.heap.size W wr)) (fun v _ => m.length - (intOf v).toNat)
    case atStart => exact ⟨0, τ0, _, by omega, rfl, by rw [List.take_zero]; exact H0.out, B0.out⟩
    case round =>
      clear H0 B0
      obtain ⟨i, τ1, hv, hi, rfl, H1, B1⟩ := hrel
      by_cases hlt : i < m.length
      · obtain ⟨x, hz⟩ : ∃ x, m[i]? = some x := ⟨_, List.getElem?_eq_getElem hlt⟩
        obtain ⟨a, rfl, hcx⟩ := (HM.out.keep B1.out).get i x hz
        have hx := HT.out.2 i x hz
        have HE := Lib.hid (hs0_take hz)
        by_cases hx0 : x = 0
        · subst hx0
          rw [if_pos rfl, List.append_nil] at HE
          clear hz hx
          go_wp2_with fail
          go_roundw
          case rel => exact ⟨i + 1, τ1, hv, by omega, by go_num, by rw [HE.out]; exact H1.out, B1.out⟩
          case measure => simp [intOf]; omega
        · rw [if_neg hx0] at HE
          have hw3 : IntKind.i64.wrap (((i : Int) + 1) * x) = ((i : Int) + 1) * x := by rcases hx with rfl | rfl | rfl <;> exact wrap_in (by omega) (by omega)
          obtain ⟨y, hy⟩ : ∃ y, y = ((i : Int) + 1) * x := ⟨_, rfl⟩
          rw [← hy] at hw3 HE
          have hw4 : IntKind.i64.wrap (((i : Int) + 1) * x) = y := by rw [← hy]; exact hw3
          have hlen : (hs0 (m.take i)).length ≤ 65536 := by have := hs0_le (m.take i); rw [List.length_take] at this; omega
          obtain ⟨hA, hcap, hform⟩ : ∃ A c, hv = .slice A (hs0 (m.take i)).length c := by have := H1.out.hrow.form; rwa [List.length_map] at this
          subst hform
          generalize hs0 (m.take i) = hs at *
          have c4 : wr.cell? ⟨p, 4, none⟩ = some (.slice hA hs.length hcap) := H1.out.blk.cell 4
          have HO : Hid (wr.ownsRow 0 3 1 (.slice hA hs.length hcap) hs.length (ints hs)) := by have := H1.out.hrow.1; rw [List.length_map] at this; exact this
          have FIN := Lib.hid (held_fin (l := y) H1.out)
          have xne : (x != 0) = true := by simpa using hx0
          have xne2 : (x == 0) = false := by simpa using hx0
          clear hz hx hw3 hy
          go_wp2_with (at_builtin; refine wpList_append_lies _ rfl _ _ _ rfl 0 3 i0 _ 1 8 Try.underlying23 HI.out.1 HI.out.2.1 HI.out.2.2.1 HI.out.2.2.2 rfl (by omega) (.slice hA hs.length hcap) hs.length (ints hs) rfl (HO.out.alloc _) ⟨wr.heap.size, 0, none⟩ 1 1 [.int .i64 y] rfl rfl (World.news_of_block (cs := #[.int .i64 y]) (t := 3) (fr := (0, 0)) (new_heap wr _)) (by simp [Value.oneCell']) (by omega) (by unfold maxLen; omega) (by omega) (Nat.zero_le _) (wr.heap.size + 1) (by simp) ?_; intro g1 c1 wp hown1 hg1 hat1 hlt1; have HFN := FIN.out wp c1 g1 hg1 hown1 hat1 hlt1; have c5 := HFN.1; have f5 := HFN.2.1; have HFF := Lib.hid HFN.2.2; clear hown1 hg1 hat1 hlt1 HFN)
          go_roundw
          case rel =>
            obtain ⟨τ2, hv2, k2, s2⟩ := HFF.out
            exact ⟨i + 1, τ2, hv2, by omega, by go_num, by rw [HE.out]; exact k2, B1.out.trans (s2.below H1.out.base (fun k hk h => by rw [H1.out.low k hk] at h; omega))⟩
          case measure => simp [intOf]; omega
      · obtain rfl : m.length = i := by omega
        have H2 : Hid (Ch W.heap.size τ1 wr p m.length (cls (f.take 0)) (lens (cls (f.take 0))) (fun _ => []) m (hs0 m) (.slice none 0 0) (.slice none 0 0) (.slice (some ⟨wb, 0, none⟩) (2 * m.length) (2 * m.length)) tv hv) := by have := H1.out; rw [List.take_length] at this; exact this
        clear H1 hlt hi
        go_wp2_with fail
        go_loopw [43] (fun v wx => ∃ (k : Nat) (τ2 : Nat → Nat) (F : Nat → List Nat) (cv lv : Value), k ≤ f.length ∧ v = .int .i64 k ∧ Hid (Ch W.heap.size τ2 wx p m.length (cls (f.take k)) (lens (cls (f.take k))) F m (hs0 m) cv lv (.slice (some ⟨wb, 0, none⟩) (2 * m.length) (2 * m.length)) tv hv) ∧ Hid (∀ q, q < 2 * m.length → F q = wl (cls (f.take k)) (un q)) ∧ Hid (Below W.heap.size W wx)) (fun v _ => f.length - (intOf v).toNat)
        case atStart => exact ⟨0, τ1, _, _, _, by omega, rfl, H2.out, fun q _ => rfl, B1.out⟩
        case round =>
          clear H2 B1
          obtain ⟨k, τ2, F, cv, lv, hk, rfl, H2, F2, B2⟩ := hrel
          by_cases hlt : k < f.length
          · obtain ⟨c, hz⟩ : ∃ c, f[k]? = some c := ⟨_, List.getElem?_eq_getElem hlt⟩
            obtain ⟨a, C, ccap, rfl, hcc, hcs, _⟩ := (HF.out.keep B2.out).get k c hz
            have hmem := List.mem_of_getElem? hz
            have hle : (cls (f.take k)).length < 100000 := by have := cls_len (f.take k); rw [List.length_take] at this; omega
            have cad := Lib.hid (add_any (A := C) (c := c) (cap := ccap) H2.out F2.out hcs (OK.out c hmem) hml hle (by unfold lens; rw [List.length_map]) (HCL.out c hmem))
            have NXT : Hid (∀ w3, AddPost W.heap.size τ2 wr p m.length (cls (f.take k)) (lens (cls (f.take k))) m (hs0 m) c (.slice (some ⟨wb, 0, none⟩) (2 * m.length) (2 * m.length)) tv hv w3 → ∃ (τ3 : Nat → Nat) (F3 : Nat → List Nat) (cv3 lv3 : Value), Hid (Ch W.heap.size τ3 w3 p m.length (cls (f.take (k + 1))) (lens (cls (f.take (k + 1)))) F3 m (hs0 m) cv3 lv3 (.slice (some ⟨wb, 0, none⟩) (2 * m.length) (2 * m.length)) tv hv) ∧ Hid (∀ q, q < 2 * m.length → F3 q = wl (cls (f.take (k + 1))) (un q)) ∧ Hid (Below W.heap.size W w3)) := by
              have low : ∀ (τ3 : Nat → Nat) (w3 : World), Step RA τ2 τ3 wr w3 → Below W.heap.size W w3 := fun τ3 w3 s => B2.out.trans (s.below H2.out.base (fun k hk h => by rw [H2.out.low k hk] at h; simp only [RA] at h; omega))
              rintro w3 (⟨ht, τ3, cv3, lv3, F3, k3, f3, s3⟩ | ⟨ht, τ3, cv3, lv3, F3, k3, f3, s3⟩)
              · have e := cls_no (f := f.take k) ht
                rw [f_take hz, e]
                exact ⟨τ3, F3, cv3, lv3, k3, f3, low _ _ s3⟩
              · have e := cls_yes (f := f.take k) ht
                rw [f_take hz, e]
                refine ⟨τ3, F3, cv3, lv3, ?_, f3, low _ _ s3⟩
                unfold lens at k3 ⊢
                rw [List.map_append]; exact k3
            clear hz hcs hmem
            go_wp2_with fail
            refine cad.out.mono ?_
            rintro e w3 ⟨rfl, hp3⟩
            obtain ⟨τ3, F3, cv3, lv3, k3, f3, b3⟩ := NXT.out w3 hp3
            clear hp3 NXT cad
            go_wp2_with fail
            go_roundw
            case rel => exact ⟨k + 1, τ3, F3, cv3, lv3, by omega, by go_num, k3.out, f3.out, b3.out⟩
            case measure => simp [intOf]; omega
          · obtain rfl : f.length = k := by omega
            go_wp2_with fail
            go_ret
            exact ⟨p, τ2, F, cv, lv, _, tv, hv, rfl, by have := H2.out; rw [List.take_length] at this; exact this, by have := F2.out; rw [List.take_length] at this; exact this, B2.out⟩
end Go.Proofs.Ytigomnbcalpohaa
