/-
  Parts of the proof, joined: FileD, FileE, FileF, FileG, FileH, FileI, FileJ, FileK, FileN.
-/
import Derived.Test.YtckoapfmfpmdgaaMh04
import Derived.Laws.CopyOwn
import Derived.Deep.OwnRows
import Derived.Deep.RegionLaw
import Derived.Test.YtckoapfmfpmdgaaMh03

namespace Go.Proofs.Ytckoapfmfpmdgaa
open Go.ChangeShapes Go.WideShapes Go.ChangeAt Go.RowKit Go.Joins
set_option linter.unusedVariables false
set_option linter.unusedSimpArgs false

/-- Bytes, as cells. -/
def byV (l : List UInt8) : List Value := l.map (fun c => .int .u8 (c.toNat : Int))
theorem byV_len (l : List UInt8) : (byV l).length = l.length := by simp [byV]
theorem byV_at {l : List UInt8} {j : Nat} {c : UInt8} (h : l[j]? = some c) : (byV l)[j]? = some (.int .u8 (c.toNat : Int)) := by simp [byV, h]
theorem byV_of {l : List UInt8} {j : Nat} {v : Value} (h : (byV l)[j]? = some v) : ∃ c, l[j]? = some c ∧ v = .int .u8 (c.toNat : Int) := by
  unfold byV at h
  rw [List.getElem?_map] at h
  cases hc : l[j]? with
  | none => rw [hc] at h; cases h
  | some c => rw [hc] at h; exact ⟨c, rfl, (Option.some.inj h).symm⟩
theorem byV_one (l : List UInt8) : ∀ v ∈ byV l, v.oneCell' = true := by
  intro v hv
  obtain ⟨c, _, rfl⟩ := List.mem_map.1 hv
  rfl
theorem byV_app (a b : List UInt8) : byV (a ++ b) = byV a ++ byV b := by simp [byV]
theorem byV_take (l : List UInt8) (n : Nat) : (byV l).take n = byV (l.take n) := by simp [byV, List.map_take]
section
variable {bz : Nat} {tau : Nat → Nat} {G : Gd} {w : World} {h : Nat} {s : Fs}
theorem Gw.under {w p w3 : World} (K : Gw w p) (B : Below w.heap.size p w3) : Gw w w3 := ⟨B.os.trans K.os, rfl, B.output.trans K.output, Nat.le_trans K.size B.size, fun k hk => (B.block k hk).trans (K.block k hk)⟩
end
end Go.Proofs.Ytckoapfmfpmdgaa

namespace Go.Proofs.Ytckoapfmfpmdgaa
open Go.ChangeShapes Go.WideShapes Go.ChangeAt Go.RowKit Go.Joins
set_option linter.unusedVariables false
set_option linter.unusedSimpArgs false

/-- A slice of bytes in new memory. -/
def BtN (base : Nat) (w : World) (x : Value) (l : List UInt8) : Prop := ∃ A cap, x = .slice A l.length cap ∧ l.length ≤ cap ∧ cap ≤ 9223372036854775807 ∧
  ∀ (j : Nat) c, l[j]? = some c → ∃ b off, A = some ⟨b, off, none⟩ ∧ base ≤ b ∧ w.cell? ⟨b, off + j, none⟩ = some (.int .u8 (c.toNat : Int))
theorem BtN.nil (base : Nat) (w : World) : BtN base w (.slice none 0 0) [] := ⟨none, 0, rfl, Nat.le_refl _, Nat.zero_le _, fun j c h => (by simp at h)⟩
theorem BtN.row {base n : Nat} {w w' : World} {x : Value} {l : List UInt8} (H : w.ownsRow base 5 1 x n (byV l)) (hn : n = l.length) (k : ∀ b, x.ownBlock = some b → w'.heap[b]? = w.heap[b]?) : BtN base w' x l := by
  subst hn
  rcases H.2 with ⟨h0, h1⟩ | ⟨g, cap, cur, h0, h1, h2, h3, h4, h5, h6⟩
  · have : l = [] := List.eq_nil_of_length_eq_zero h1
    subst this
    rw [h0]; exact BtN.nil _ _
  · refine ⟨_, cap, h0, h3, h4, fun j c hj => ⟨g, 0, rfl, h1, ?_⟩⟩
    have hb := byV_at hj
    rw [← h6, List.getElem?_take] at hb
    rw [Nat.zero_add, World.cell?_of_block (a := ⟨g, j, none⟩) (k g (by rw [h0]; rfl)), cell_of_row w g j cur _ _ h2]
    split at hb
    · simpa using hb
    · cases hb
section
variable {bz : Nat} {tau : Nat → Nat} {G : Gd} {w : World} {h : Nat} {s : Fs}
end
end Go.Proofs.Ytckoapfmfpmdgaa

namespace Go.Proofs.Ytckoapfmfpmdgaa
open Go.ChangeShapes Go.WideShapes Go.ChangeAt Go.RowKit Go.Joins
set_option linter.unusedVariables false
set_option linter.unusedSimpArgs false

/-- A slice of bytes that is handed in. -/
def BtA (w : World) (y : Value) (l : List UInt8) : Prop := ∃ A cap, y = .slice A l.length cap ∧ l.length ≤ cap ∧ cap ≤ 9223372036854775807 ∧
  ∀ (j : Nat) c, l[j]? = some c → ∃ b off, A = some ⟨b, off, none⟩ ∧ w.cell? ⟨b, off + j, none⟩ = some (.int .u8 (c.toNat : Int))
theorem BtA.on {w w' : World} {y : Value} {l : List UInt8} (H : BtA w y l) (K : Gw w w') : BtA w' y l := by
  obtain ⟨A, cap, h1, h2, h3, h4⟩ := H
  refine ⟨A, cap, h1, h2, h3, fun j c hj => ?_⟩
  obtain ⟨b, off, e, hc⟩ := h4 j c hj
  exact ⟨b, off, e, K.cell hc⟩
section
variable {bz : Nat} {tau : Nat → Nat} {G : Gd} {w : World} {h : Nat} {s : Fs}
/-- How long a slice is. -/
def sLen : Value → Nat
  | .slice _ n _ => n
  | _ => 0
end
end Go.Proofs.Ytckoapfmfpmdgaa

namespace Go.Proofs.Ytckoapfmfpmdgaa
open Go.ChangeShapes Go.WideShapes Go.ChangeAt Go.RowKit Go.Joins
set_option linter.unusedVariables false
set_option linter.unusedSimpArgs false

/-- Where the base of a row's block is. -/
theorem own_ge {w : World} {B : Nat} {e : TypeId} {size n : Nat} {v : Value} {xs : List Value} (h : w.ownsRow B e size v n xs) : ∀ b, v.ownBlock = some b → B ≤ b ∧ b < w.heap.size := by
  intro b hb
  rcases h.2 with ⟨h0, _⟩ | ⟨g, cap, cur, h0, h1, h2, _⟩
  · rw [h0] at hb; cases hb
  · rw [h0] at hb; cases hb; exact ⟨h1, lt_of_heap h2⟩
section
variable {bz : Nat} {tau : Nat → Nat} {G : Gd} {w : World} {h : Nat} {s : Fs}
/-- The parts with those of a row's block. -/
def tagV (tau : Nat → Nat) (v : Value) (n : Nat) : Nat → Nat := fun b => if v.ownBlock = some b then n else tau b
theorem tagV_old {v : Value} {n m b : Nat} (h : tau b = m + 1) (hv : v.ownBlock = some b → n = m + 1) : tagV tau v n b = m + 1 := by
  unfold tagV
  split
  · rename_i e; exact hv e
  · exact h
/-- One more number with no bytes. -/
theorem FR.addd (H : FR bz tau G w h s) {w2 : World} {v' : Value} (os : w2.os = w.os) (ou : w2.output = w.output) (hz : w.heap.size ≤ w2.heap.size) (hh : Has w2 h 118 (hC G.g v' G.ov s.fd))
    (own : w2.ownsRow bz 52 1 v' (s.d.length + 1) (G.ds ++ [.slice none 0 0])) (at_ : ∀ b, v'.ownBlock = some b → G.dv.ownBlock = some b ∨ w.heap.size ≤ b) (q : ∀ c, c < w.heap.size → c ≠ h → G.dv.ownBlock ≠ some c → w2.heap[c]? = w.heap[c]?) :
    Fc tau w w2 ∧ ∃ tau' G', FR bz tau' G' w2 h { s with d := s.d ++ [[]] } ∧ G'.ps = G.ps ∧ G'.g = G.g ∧ G'.sl = G.sl ∧ G'.ov = G.ov ∧ ∀ k, k < w.heap.size → tau' k ≠ 0 → tau k ≠ 0 := by
  have qn : ∀ c m, tau c = m + 1 → m ≠ 0 → m ≠ 2 → w2.heap[c]? = w.heap[c]? := fun c m e h0 h2 => q c (H.lt c (by omega)).2 (fun e2 => by have := H.th; rw [← e2] at this; omega) (fun e2 => by have := H.td c e2; omega)
  have new : ∀ c m, tau c = m + 1 → v'.ownBlock = some c → 3 = m + 1 := fun c m e hc => by
    rcases at_ c hc with h1 | h1
    · have := H.td c h1; omega
    · have := (H.lt c (by omega)).2; omega
  refine ⟨⟨os, ou, hz, fun c hc ht => q c hc (fun e => by have := H.th; rw [← e] at this; omega) (fun e => by have := H.td c e; omega)⟩, tagV tau v' 3, { G with dv := v', ds := G.ds ++ [.slice none 0 0] }, ?_, rfl, rfl, rfl, rfl, fun c hc ht => ?_⟩
  · refine ⟨hh, H.tr.same (fun c hc => ?_), by rw [List.length_append]; exact own, own_same H.or_ (fun c hc => qn c 3 (H.tov c hc) (by decide) (by decide)), fun j c x hc hx => (H.oc j c x hc hx).same (qn c (5 + j) (by rw [H.tp j c hc]; omega) (by omega) (by omega)),
      fun j x l hx hl => ?_, tagV_old H.th (new h 0 H.th), tagV_old H.tg (new _ 1 H.tg), fun c hc => tagV_old (H.ts c hc) (new c 1 (H.ts c hc)), fun c hc => if_pos hc, fun c hc => tagV_old (H.tov c hc) (new c 3 (H.tov c hc)), fun j c hc => ?_, fun c hc => ?_, Nat.le_trans H.hz hz, ⟨H.ok.fl, H.ok.fds, fun j x hx => ?_, fun l hl => ?_⟩⟩
    · rcases hc with rfl | hc
      · exact qn _ 1 H.tg (by decide) (by decide)
      · exact qn c 1 (H.ts c hc) (by decide) (by decide)
    · by_cases hj : j < s.d.length
      · rw [List.getElem?_append_left (by rw [H.len.1]; exact hj)] at hx
        rw [List.getElem?_append_left hj] at hl
        refine (H.by_ j x l hx hl).on fun c hc ht => ⟨?_, ht.imp id (fun e => tagV_old e (new c 4 e))⟩
        rcases ht with ht | ht
        · exact q c hc (fun e => by have := (H.lt h (by rw [H.th]; decide)).1; omega) (fun e => by have := (H.lt c (by rw [H.td c e]; decide)).1; omega)
        · exact qn c 4 ht (by decide) (by decide)
      · rw [List.getElem?_append_right (by rw [H.len.1]; omega), H.len.1] at hx
        rw [List.getElem?_append_right (by omega)] at hl
        have hj0 : j - s.d.length = 0 := by
          have := (List.getElem?_eq_some_iff.1 hl).1
          simp at this; omega
        rw [hj0] at hx hl
        simp at hx hl
        subst hx hl
        exact ⟨none, 0, rfl, Nat.le_refl _, Nat.zero_le _, fun j c hj => by simp at hj⟩
    · have e : tau c = 5 + j + 1 := by rw [H.tp j c hc]; omega
      have := tagV_old (v := v') (n := 3) e (new c _ e)
      omega
    · unfold tagV at hc
      split at hc
      · rename_i e
        exact own_ge own c e
      · have := H.lt c hc
        exact ⟨this.1, Nat.lt_of_lt_of_le this.2 hz⟩
    · have := H.ok.os j x hx
      rw [List.length_append]
      exact ⟨by omega, this.2⟩
    · rcases List.mem_append.1 hl with hl | hl
      · exact H.ok.ds l hl
      · rw [List.mem_singleton.1 hl]; exact Nat.zero_le _
  · unfold tagV at ht
    split at ht
    · rename_i e
      rcases at_ c e with h1 | h1
      · rw [H.td c h1]; decide
      · omega
    · exact ht
/-- A descriptor of a new open file. -/
theorem FR.addo (H : FR bz tau G w h s) {w2 : World} {v' : Value} {n ob : Nat} {x : Nat × Nat} (hx : x.1 < s.d.length ∧ x.2 ≤ 263) (os : w2.os = w.os) (ou : w2.output = w.output) (hz : w.heap.size ≤ w2.heap.size) (hh : Has w2 h 118 (hC G.g G.dv v' (s.fd.set n s.o.length)))
    (own : w2.ownsRow bz 134 1 v' (s.o.length + 1) (G.ps.map ptV ++ [ptV ob])) (hob : Has w2 ob 136 (opC x)) (hnb : w.heap.size ≤ ob) (hne : v'.ownBlock ≠ some ob) (at_ : ∀ b, v'.ownBlock = some b → G.ov.ownBlock = some b ∨ w.heap.size ≤ b)
    (q : ∀ c, c < w.heap.size → c ≠ h → G.ov.ownBlock ≠ some c → w2.heap[c]? = w.heap[c]?) : FTo bz tau w h { s with fd := s.fd.set n s.o.length, o := s.o ++ [x] } w2 := by
  have qn : ∀ c m, tau c = m + 1 → m ≠ 0 → m ≠ 3 → w2.heap[c]? = w.heap[c]? := fun c m e h0 h2 => q c (H.lt c (by omega)).2 (fun e2 => by have := H.th; rw [← e2] at this; omega) (fun e2 => by have := H.tov c e2; omega)
  let tau2 : Nat → Nat := fun b => if b = ob then 6 + s.o.length else tagV tau v' 4 b
  have keep : ∀ c m, tau c = m + 1 → (v'.ownBlock = some c → 4 = m + 1) → tau2 c = m + 1 := fun c m e hv => by
    show (if c = ob then _ else _) = _
    rw [if_neg (fun e2 => by have := (H.lt c (by omega)).2; omega)]
    exact tagV_old e hv
  have new : ∀ c m, tau c = m + 1 → v'.ownBlock = some c → 4 = m + 1 := fun c m e hc => by
    rcases at_ c hc with h1 | h1
    · have := H.tov c h1; omega
    · have := (H.lt c (by omega)).2; omega
  have kn : ∀ c m, tau c = m + 1 → tau2 c = m + 1 := fun c m e => keep c m e (new c m e)
  refine ⟨⟨os, ou, hz, fun c hc ht => q c hc (fun e => by have := H.th; rw [← e] at this; omega) (fun e => by have := H.tov c e; omega)⟩, tau2, { G with ov := v', ps := G.ps ++ [ob] }, ?_, fun c hc ht => ?_⟩
  · refine ⟨hh, H.tr.same (fun c hc => ?_), own_same H.dr (fun c hc => qn c 2 (H.td c hc) (by decide) (by decide)), by rw [List.length_append, List.map_append]; exact own, fun j c y hc hy => ?_, fun j y l hy hl => (H.by_ j y l hy hl).on fun c hc ht => ⟨?_, ht.imp id (fun e => kn c 4 e)⟩,
      kn h 0 H.th, kn _ 1 H.tg, fun c hc => kn c 1 (H.ts c hc), fun c hc => kn c 2 (H.td c hc), fun c hc => ?_, fun j c hc => ?_, fun c hc => ?_, Nat.le_trans H.hz hz, ⟨by simp [H.ok.fl], fun j k hk => ?_, fun j y hy => ?_, H.ok.ds⟩⟩
    · rcases hc with rfl | hc
      · exact qn _ 1 H.tg (by decide) (by decide)
      · exact qn c 1 (H.ts c hc) (by decide) (by decide)
    · by_cases hj : j < s.o.length
      · rw [List.getElem?_append_left (by rw [H.len.2]; exact hj)] at hc
        rw [List.getElem?_append_left hj] at hy
        exact (H.oc j c y hc hy).same (qn c (5 + j) (by rw [H.tp j c hc]; omega) (by omega) (by omega))
      · rw [List.getElem?_append_right (by rw [H.len.2]; omega), H.len.2] at hc
        rw [List.getElem?_append_right (by omega)] at hy
        have hj0 : j - s.o.length = 0 := by
          have := (List.getElem?_eq_some_iff.1 hy).1
          simp at this; omega
        rw [hj0] at hc hy
        simp at hc hy
        subst hc hy
        exact hob
    · rcases ht with ht | ht
      · exact q c hc (fun e => by have := (H.lt h (by rw [H.th]; decide)).1; omega) (fun e => by have := (H.lt c (by rw [H.tov c e]; decide)).1; omega)
      · exact qn c 4 ht (by decide) (by decide)
    · show (if c = ob then _ else _) = _
      rw [if_neg (fun e => hne (by rw [← e]; exact hc))]
      exact if_pos hc
    · by_cases hj : j < s.o.length
      · rw [List.getElem?_append_left (by rw [H.len.2]; exact hj)] at hc
        have := kn c (5 + j) (by rw [H.tp j c hc]; omega)
        omega
      · have hjl := (List.getElem?_eq_some_iff.1 hc).1
        rw [List.length_append, H.len.2] at hjl
        simp at hjl
        have e : j = s.o.length := by omega
        rw [List.getElem?_append_right (by rw [H.len.2]; omega), H.len.2, e, Nat.sub_self] at hc
        simp at hc
        subst hc
        show (if ob = ob then _ else _) = _
        rw [if_pos rfl, e]
    · by_cases e : c = ob
      · subst e; exact ⟨Nat.le_trans H.hz hnb, hob.lt⟩
      · have hc' : tagV tau v' 4 c ≠ 0 := by
          have : (if c = ob then 6 + s.o.length else tagV tau v' 4 c) ≠ 0 := hc
          rwa [if_neg e] at this
        unfold tagV at hc'
        split at hc'
        · rename_i e2
          exact own_ge own c e2
        · have := H.lt c hc'
          exact ⟨this.1, Nat.lt_of_lt_of_le this.2 hz⟩
    · rw [List.getElem?_set] at hk
      rw [List.length_append]
      by_cases e : n = j
      · subst e
        rw [if_pos rfl] at hk
        split at hk
        · cases hk; simp; omega
        · cases hk
      · rw [if_neg e] at hk
        have := H.ok.fds j k hk
        simp; omega
    · by_cases hj : j < s.o.length
      · rw [List.getElem?_append_left hj] at hy
        exact H.ok.os j y hy
      · rw [List.getElem?_append_right (by omega)] at hy
        have hj0 : j - s.o.length = 0 := by
          have := (List.getElem?_eq_some_iff.1 hy).1
          simp at this; omega
        rw [hj0] at hy
        simp at hy
        subst hy
        exact hx
  · have ht' : (if c = ob then 6 + s.o.length else tagV tau v' 4 c) ≠ 0 := ht
    rw [if_neg (by omega)] at ht'
    unfold tagV at ht'
    split at ht'
    · rename_i e
      rcases at_ c e with h1 | h1
      · rw [H.tov c h1]; decide
      · omega
    · exact ht'
end
end Go.Proofs.Ytckoapfmfpmdgaa

namespace Go.Proofs.Ytckoapfmfpmdgaa
open Go.ChangeShapes Go.WideShapes Go.ChangeAt Go.RowKit Go.Joins
set_option linter.unusedVariables false
set_option linter.unusedSimpArgs false

/-- On the way: so far nothing but its own has changed. -/
structure Way (bz : Nat) (tau : Nat → Nat) (w : World) (h : Nat) (s1 : Fs) (w1 : World) : Prop where
  ch : Fc tau w w1
  ex : ∃ tau1 G1, FR bz tau1 G1 w1 h s1 ∧ ∀ k, k < w.heap.size → tau1 k ≠ 0 → tau k ≠ 0
section
variable {bz : Nat} {tau : Nat → Nat} {G : Gd} {w : World} {h : Nat} {s : Fs}
theorem Way.start (H : FR bz tau G w h s) {w1 : World} (K : Gw w w1) : Way bz tau w h s w1 := ⟨⟨K.os, K.output, K.size, fun k hk _ => K.block k hk⟩, tau, G, H.on K, fun _ _ hk => hk⟩
theorem Way.go {s1 s2 : Fs} {w1 w2 : World} (W : Way bz tau w h s1 w1) (f : ∀ tau1 G1, FR bz tau1 G1 w1 h s1 → FTo bz tau1 w1 h s2 w2) : Way bz tau w h s2 w2 := by
  obtain ⟨tau1, G1, H1, n1⟩ := W.ex
  have := FTo.step W.ch n1 (f tau1 G1 H1)
  exact ⟨this.ch, this.ex⟩
/-- A row of no bytes more. -/
theorem FR.pad (H : FR bz tau G w h s) {w1 w2 : World} {g1 cap : Nat} (K : Gw w w1) (gr : w1.grownBy w2 G.dv.ownBlock) (at_ : G.dv.ownBlock = some g1 ∨ g1 = w1.heap.size)
    (own : w2.ownsRow bz 52 1 (.slice (some ⟨g1, 0, none⟩) (s.d.length + 1) cap) (s.d.length + 1) (G.ds ++ [.slice none 0 0])) :
    FTo bz tau w h { s with d := s.d ++ [[]] } (w2.setCell ⟨h, 1, none⟩ (.slice (some ⟨g1, 0, none⟩) (s.d.length + 1) cap)) := by
  have hh := H.hd
  have hl := hh.lt
  have nh : G.dv.ownBlock ≠ some h := fun e => by have := H.td h e; rw [H.th] at this; cases this
  have ng : g1 ≠ h := fun e => by
    rcases at_ with h1 | h1
    · exact nh (by rw [h1, e])
    · have := K.size; omega
  have h1 : Has w2 h 118 (hC G.g G.dv G.ov s.fd) := hh.same ((gr.block h (Nat.lt_of_lt_of_le hl K.size) (fun e => nh e.symm)).trans (K.block h hl))
  have h2 := h1.put 1 (.slice (some ⟨g1, 0, none⟩) (s.d.length + 1) cap)
  rw [hC_setdv] at h2
  obtain ⟨c, t', G', k, _, _, _, _, n⟩ := H.addd (w2 := w2.setCell ⟨h, 1, none⟩ (.slice (some ⟨g1, 0, none⟩) (s.d.length + 1) cap)) (v' := .slice (some ⟨g1, 0, none⟩) (s.d.length + 1) cap) (gr.os.trans K.os) (gr.output.trans K.output) (by have := K.size; have := gr.size; simp; omega) h2
    (own_same own (fun b hb => set_other (p := ⟨h, 1, none⟩) (fun e => ng (by have : g1 = b := by simpa [Value.ownBlock] using hb
                                                                              rw [this]; exact e))))
    (fun b hb => by
      have e : g1 = b := by simpa [Value.ownBlock] using hb
      rcases at_ with h1 | h1
      · exact .inl (by rw [h1, e])
      · exact .inr (by have := K.size; omega))
    (fun c hc hch hcd => (set_other (p := ⟨h, 1, none⟩) hch).trans ((gr.block c (Nat.lt_of_lt_of_le hc K.size) (fun e => hcd e.symm)).trans (K.block c hc)))
  exact ⟨c, t', G', k, n⟩
end
end Go.Proofs.Ytckoapfmfpmdgaa

namespace Go.Proofs.Ytckoapfmfpmdgaa
open Go.ChangeShapes Go.WideShapes Go.ChangeAt Go.RowKit Go.Joins
set_option linter.unusedVariables false
set_option linter.unusedSimpArgs false

section
variable {bz : Nat} {tau : Nat → Nat} {G : Gd} {w : World} {h : Nat} {s : Fs}
theorem FR.opens (H : FR bz tau G w h s) {w0 w2 : World} {n g1 cap : Nat} {x : Nat × Nat} (hx : x.1 < s.d.length ∧ x.2 ≤ 263) {o2 : Obj} (K : Gw (w.setCell ⟨h, 3 + n, none⟩ (.int .i64 (s.o.length : Int))) w0)
    (gr : ((w0.alloc (.cells (opC x) 136)).alloc o2).grownBy w2 G.ov.ownBlock) (at_ : G.ov.ownBlock = some g1 ∨ g1 = ((w0.alloc (.cells (opC x) 136)).alloc o2).heap.size)
    (own : w2.ownsRow bz 134 1 (.slice (some ⟨g1, 0, none⟩) (s.o.length + 1) cap) (s.o.length + 1) (G.ps.map ptV ++ [ptV w0.heap.size])) :
    FTo bz tau w h { s with fd := s.fd.set n s.o.length, o := s.o ++ [x] } (w2.setCell ⟨h, 2, none⟩ (.slice (some ⟨g1, 0, none⟩) (s.o.length + 1) cap)) := by
  have hl := H.hd.lt
  have zs : (w.setCell ⟨h, 3 + n, none⟩ (.int .i64 (s.o.length : Int))).heap.size = w.heap.size := by simp
  have z0 := K.size
  rw [zs] at z0
  have z1 : ((w0.alloc (.cells (opC x) 136)).alloc o2).heap.size = w0.heap.size + 1 + 1 := by rw [size_alloc, size_alloc]
  have z2 := gr.size
  rw [z1] at z2 at_
  have nh : G.ov.ownBlock ≠ some h := fun e => by have := H.tov h e; rw [H.th] at this; cases this
  have ol : ∀ b, G.ov.ownBlock = some b → b < w.heap.size := fun b hb => (H.lt b (by rw [H.tov b hb]; decide)).2
  have ng : g1 ≠ h := fun e => by
    rcases at_ with h1 | h1
    · exact nh (by rw [h1, e])
    · omega
  have ngo : g1 ≠ w0.heap.size := fun e => by
    rcases at_ with h1 | h1
    · have := ol g1 h1; omega
    · omega
  have kb : ∀ c, c < w.heap.size → c ≠ h → G.ov.ownBlock ≠ some c → w2.heap[c]? = w.heap[c]? := fun c hc hch hco => by
    rw [gr.block c (by rw [z1]; omega) (fun e => hco e.symm), Below.heap_alloc _ _ c (by rw [size_alloc]; omega), Below.heap_alloc _ _ c (by omega), K.block c (by rw [zs]; exact hc)]
    exact set_other (p := ⟨h, 3 + n, none⟩) hch
  have hh1 := (H.hd.put (3 + n) (.int .i64 (s.o.length : Int)))
  rw [hC_setfd] at hh1
  have hh2 : Has w2 h 118 (hC G.g G.dv G.ov (s.fd.set n s.o.length)) := by
    refine hh1.same ?_
    rw [gr.block h (by rw [z1]; omega) (fun e => nh e.symm), Below.heap_alloc _ _ h (by rw [size_alloc]; omega), Below.heap_alloc _ _ h (by omega), K.block h (by rw [zs]; exact hl)]
  have hh3 := hh2.put 2 (.slice (some ⟨g1, 0, none⟩) (s.o.length + 1) cap)
  rw [hC_setov] at hh3
  have hob : Has w2 w0.heap.size 136 (opC x) := by
    refine (Has.new w0 136 (opC x)).same ?_
    rw [gr.block w0.heap.size (by rw [z1]; omega) (fun e => by have := ol _ e.symm; omega), Below.heap_alloc _ _ _ (by rw [size_alloc]; omega)]
  have no : w0.heap.size ≠ h := by omega
  refine H.addo (ob := w0.heap.size) hx (gr.os.trans K.os) (gr.output.trans K.output) (by simp; omega) hh3 (own_same own (fun b hb => set_other (p := ⟨h, 2, none⟩) (fun e => ?_))) (hob.same (set_other (p := ⟨h, 2, none⟩) no)) z0 (fun e => ngo (by simpa [Value.ownBlock] using e)) (fun b hb => ?_) (fun c hc hch hco => (set_other (p := ⟨h, 2, none⟩) hch).trans (kb c hc hch hco))
  · have e1 : g1 = b := by simpa [Value.ownBlock] using hb
    exact ng (e1.trans e)
  · have e1 : g1 = b := by simpa [Value.ownBlock] using hb
    rcases at_ with h1 | h1
    · exact .inl (by rw [h1, e1])
    · exact .inr (by omega)
end
end Go.Proofs.Ytckoapfmfpmdgaa

namespace Go.Proofs.Ytckoapfmfpmdgaa
open Go.ChangeShapes Go.WideShapes Go.ChangeAt Go.RowKit Go.Joins
set_option linter.unusedVariables false
set_option linter.unusedSimpArgs false

section
variable {bz : Nat} {tau : Nat → Nat} {G : Gd} {w : World} {h : Nat} {s : Fs}
end
end Go.Proofs.Ytckoapfmfpmdgaa

namespace Go.Proofs.Ytckoapfmfpmdgaa
open Go.ChangeShapes Go.WideShapes Go.ChangeAt Go.RowKit Go.Joins
set_option linter.unusedVariables false
set_option linter.unusedSimpArgs false

section
variable {bz : Nat} {tau : Nat → Nat} {G : Gd} {w : World} {h : Nat} {s : Fs}
end
end Go.Proofs.Ytckoapfmfpmdgaa

namespace Go.Proofs.Ytckoapfmfpmdgaa
open Go.ChangeShapes Go.WideShapes Go.ChangeAt Go.RowKit Go.Joins
set_option linter.unusedVariables false
set_option linter.unusedSimpArgs false

/-- The bytes of the first i entries, and how many files are among them. -/
def fillTo (es : List (List UInt8 × Bool)) (data : List (List UInt8)) : Nat → Option (List (List UInt8) × Nat)
  | 0 => some ([], 0)
  | i + 1 => match fillTo es data i, es[i]? with
    | some (a, k), some e => if e.2 = true then some (a ++ [[]], k) else match data[k]? with
      | none => none
      | some x => if 8 < x.length then none else some (a ++ [x], k + 1)
    | _, _ => none
theorem fill_none {es : List (List UInt8 × Bool)} {data : List (List UInt8)} {i : Nat} (h : fillTo es data i = none) : ∀ j, fillTo es data (i + j) = none
  | 0 => h
  | j + 1 => by
    show fillTo es data ((i + j) + 1) = none
    rw [fillTo, fill_none h j]
theorem fill_len {es : List (List UInt8 × Bool)} {data : List (List UInt8)} : ∀ {i : Nat} {a : List (List UInt8)} {k : Nat}, fillTo es data i = some (a, k) → a.length = i ∧ k ≤ i ∧ k ≤ data.length ∧ ∀ l ∈ a, l.length ≤ 8
  | 0, a, k, h => by cases h; exact ⟨rfl, Nat.le_refl _, Nat.zero_le _, fun l hl => by cases hl⟩
  | i + 1, a, k, h => by
    rw [fillTo] at h
    cases hp : fillTo es data i with
    | none => rw [hp] at h; simp at h
    | some x =>
      obtain ⟨a0, k0⟩ := x
      obtain ⟨h1, h2, h3, h4⟩ := fill_len hp
      cases he : es[i]? with
      | none => rw [hp, he] at h; simp at h
      | some e =>
        rw [hp, he] at h
        simp only at h
        split at h
        · cases h
          refine ⟨by simp [h1], by omega, h3, fun l hl => ?_⟩
          rcases List.mem_append.1 hl with hl | hl
          · exact h4 l hl
          · rw [List.mem_singleton.1 hl]; exact Nat.zero_le _
        · cases hd : data[k0]? with
          | none => rw [hd] at h; simp at h
          | some x =>
            rw [hd] at h
            simp only at h
            split at h
            · cases h
            · cases h
              have := (List.getElem?_eq_some_iff.1 hd).1
              refine ⟨by simp [h1], by omega, by omega, fun l hl => ?_⟩
              rcases List.mem_append.1 hl with hl | hl
              · exact h4 l hl
              · rw [List.mem_singleton.1 hl]; omega
/-- What NewFiles answers: a number, or a file system. -/
def newF (es : List (List UInt8 × Bool)) (data : List (List UInt8)) : Int ⊕ Fs := match newT es with
  | none => .inl 11
  | some t => match fillTo es data es.length with
    | none => .inl 12
    | some (a, k) => if k = data.length then .inr ⟨t, a, [], [-1, -1, -1, -1]⟩ else .inl 12
theorem newF_bad {es : List (List UInt8 × Bool)} {data : List (List UInt8)} {t : St} (ht : newT es = some t) {i : Nat} (hi : i ≤ es.length) (h : fillTo es data i = none) : newF es data = .inl 12 := by
  unfold newF
  rw [ht, show es.length = i + (es.length - i) by omega, fill_none h]
theorem newF_many {es : List (List UInt8 × Bool)} {data : List (List UInt8)} {t : St} (ht : newT es = some t) {a : List (List UInt8)} {k : Nat} (h : fillTo es data es.length = some (a, k)) (hk : k ≠ data.length) : newF es data = .inl 12 := by
  unfold newF
  rw [ht, h]
  simp only
  rw [if_neg hk]
theorem newF_ok {es : List (List UInt8 × Bool)} {data : List (List UInt8)} {t : St} (ht : newT es = some t) {a : List (List UInt8)} {k : Nat} (h : fillTo es data es.length = some (a, k)) (hk : k = data.length) : newF es data = .inr ⟨t, a, [], [-1, -1, -1, -1]⟩ := by
  unfold newF
  rw [ht, h]
  simp only
  rw [if_pos hk]
theorem BtAt.gw {bz : Nat} {tau : Nat → Nat} {w w' : World} {x : Value} {l : List UInt8} (H : BtAt bz tau w x l) (K : Gw w w') : BtAt bz tau w' x l := H.on fun b hb ht => ⟨K.block b hb, ht⟩
/-- On the way: head, tree, the row of bytes. -/
structure Nv (bz : Nat) (W : World) (h g : Nat) (sl dv : Value) (t : St) (a : List (List UInt8)) (ds : List Value) (fd : List Int) (w : World) : Prop where
  hd : Has w h 118 (hC g dv (.slice none 0 0) fd)
  tr : RT W.heap.size w g sl t
  gh : g < h
  sh : ∀ b, sl.ownBlock = some b → W.heap.size ≤ b ∧ b < h
  dr : w.ownsRow (h + 1) 52 1 dv a.length ds
  by_ : ∀ (j : Nat) x l, ds[j]? = some x → a[j]? = some l → BtAt bz (fun _ => 0) w x l
  gw : Gw W w
section
variable {bz : Nat} {W w : World} {h g : Nat} {sl dv : Value} {t : St} {a : List (List UInt8)} {ds : List Value} {fd : List Int}
theorem Nv.start {w1 : World} {g : Nat} {sl : Value} {t : St} (K : Gw W w1) (R : RT W.heap.size w1 g sl t) (hs : ∀ b, sl.ownBlock = some b → W.heap.size ≤ b) :
    Nv bz W w1.heap.size g sl (.slice none 0 0) t [] [] [0, 0, 0, 0] (w1.alloc (.cells (hC g (.slice none 0 0) (.slice none 0 0) [0, 0, 0, 0]) 118)) := by
  have G1 := Gw.alloc w1 (.cells (hC g (.slice none 0 0) (.slice none 0 0) [0, 0, 0, 0]) 118)
  have hl : ∀ b, sl.ownBlock = some b → b < w1.heap.size := fun b hb => (own_ge R.row b hb).2
  refine ⟨Has.new _ _ _, R.same (fun b hb => ?_), R.hd.lt, fun b hb => ⟨hs b hb, hl b hb⟩, World.ownsRow_nil _ _ _ 1, fun j x l hx => by simp at hx, K.trans G1⟩
  rcases hb with rfl | hb
  · exact G1.block _ R.hd.lt
  · exact G1.block b (hl b hb)
theorem Nv.len (H : Nv bz W h g sl dv t a ds fd w) : ds.length = a.length := by have := H.dr.1; rw [Nat.mul_one] at this; exact this
theorem Nv.wh (H : Nv bz W h g sl dv t a ds fd w) : W.heap.size ≤ h := by have := H.tr.hB; have := H.gh; omega
theorem Nv.dvh (H : Nv bz W h g sl dv t a ds fd w) : ∀ b, dv.ownBlock = some b → h + 1 ≤ b ∧ b < w.heap.size := own_ge H.dr
/-- Nothing but the head, and what is behind it, has changed. -/
theorem Nv.keep (H : Nv bz W h g sl dv t a ds fd w) (hbz : bz ≤ W.heap.size) {w' : World} (os : w'.os = w.os) (ou : w'.output = w.output) (hz : w.heap.size ≤ w'.heap.size) (q : ∀ c, c < h → w'.heap[c]? = w.heap[c]?) :
    RT W.heap.size w' g sl t ∧ (∀ (j : Nat) x l, ds[j]? = some x → a[j]? = some l → BtAt bz (fun _ => 0) w' x l) ∧ Gw W w' := by
  refine ⟨H.tr.same (fun b hb => ?_), fun j x l hx hl => (H.by_ j x l hx hl).on fun b hb ht => ⟨?_, ht⟩, ⟨os.trans H.gw.os, rfl, ou.trans H.gw.output, Nat.le_trans H.gw.size hz, fun k hk => ?_⟩⟩
  · rcases hb with rfl | hb
    · exact q _ H.gh
    · exact q b (H.sh b hb).2
  · rcases ht with ht | ht
    · have := H.wh
      exact q b (by omega)
    · cases ht
  · have := H.wh
    exact (q k (by omega)).trans (H.gw.block k hk)
theorem Nv.add (H : Nv bz W h g sl dv t a ds fd w) (hbz : bz ≤ W.heap.size) {w1 w2 : World} {g1 cap : Nat} (K : Gw w w1) (gr : w1.grownBy w2 dv.ownBlock) (at_ : dv.ownBlock = some g1 ∨ g1 = w1.heap.size)
    (own : w2.ownsRow (h + 1) 52 1 (.slice (some ⟨g1, 0, none⟩) (a.length + 1) cap) (a.length + 1) (ds ++ [.slice none 0 0])) :
    Nv bz W h g sl (.slice (some ⟨g1, 0, none⟩) (a.length + 1) cap) t (a ++ [[]]) (ds ++ [.slice none 0 0]) fd (w2.setCell ⟨h, 1, none⟩ (.slice (some ⟨g1, 0, none⟩) (a.length + 1) cap)) := by
  have hl := H.hd.lt
  have nh : dv.ownBlock ≠ some h := fun e => by have := (H.dvh h e).1; omega
  have ng : g1 ≠ h := fun e => by
    rcases at_ with h1 | h1
    · exact nh (by rw [h1, e])
    · have := K.size; omega
  have e2 : ∀ c, c ≤ h → w2.heap[c]? = w.heap[c]? := fun c hc => (gr.block c (by have := K.size; omega) (fun e => by have := (H.dvh c e.symm).1; omega)).trans (K.block c (by omega))
  have e3 : ∀ c, c ≠ h → (w2.setCell ⟨h, 1, none⟩ (.slice (some ⟨g1, 0, none⟩) (a.length + 1) cap)).heap[c]? = w2.heap[c]? := fun c hc => set_other (p := ⟨h, 1, none⟩) hc
  obtain ⟨k1, k2, k3⟩ := H.keep hbz (w' := w2.setCell ⟨h, 1, none⟩ (.slice (some ⟨g1, 0, none⟩) (a.length + 1) cap)) (gr.os.trans K.os) (gr.output.trans K.output) (by have := K.size; have := gr.size; simp; omega) (fun c hc => (e3 c (by omega)).trans (e2 c (by omega)))
  have h1 : Has w2 h 118 (hC g dv (.slice none 0 0) fd) := H.hd.same (e2 h (Nat.le_refl _))
  have h2 := h1.put 1 (.slice (some ⟨g1, 0, none⟩) (a.length + 1) cap)
  rw [hC_setdv] at h2
  refine ⟨h2, k1, H.gh, H.sh, ?_, fun j x l hx hl => ?_, k3⟩
  · rw [List.length_append]
    exact own_same own (fun b hb => e3 b (fun e => ng (by have : g1 = b := by simpa [Value.ownBlock] using hb
                                                          rw [this]; exact e)))
  · by_cases hj : j < a.length
    · rw [List.getElem?_append_left (by rw [H.len]; exact hj)] at hx
      rw [List.getElem?_append_left hj] at hl
      exact k2 j x l hx hl
    · rw [List.getElem?_append_right (by rw [H.len]; omega), H.len] at hx
      rw [List.getElem?_append_right (by omega)] at hl
      have hj0 : j - a.length = 0 := by
        have := (List.getElem?_eq_some_iff.1 hl).1
        simp at this; omega
      rw [hj0] at hx hl
      simp at hx hl
      subst hx hl
      exact ⟨none, 0, rfl, Nat.le_refl _, Nat.zero_le _, fun j c hj => by simp at hj⟩
/-- The last of the row is stored. -/
theorem Nv.put {g1 cap : Nat} {x : Value} {l : List UInt8} (H : Nv bz W h g sl (.slice (some ⟨g1, 0, none⟩) (a.length + 1) cap) t (a ++ [[]]) (ds ++ [.slice none 0 0]) fd w) (hbz : bz ≤ W.heap.size) (hx : BtAt bz (fun _ => 0) W x l) :
    Nv bz W h g sl (.slice (some ⟨g1, 0, none⟩) (a.length + 1) cap) t (a ++ [l]) (ds ++ [x]) fd (w.setCell ⟨g1, a.length, none⟩ x) := by
  have hg1 := (H.dvh g1 rfl).1
  have e3 : ∀ c, c ≠ g1 → (w.setCell ⟨g1, a.length, none⟩ x).heap[c]? = w.heap[c]? := fun c hc => set_other (p := ⟨g1, a.length, none⟩) hc
  have hll := H.len
  simp at hll
  obtain ⟨k1, k2, k3⟩ := H.keep hbz (w' := w.setCell ⟨g1, a.length, none⟩ x) rfl rfl (by simp) (fun c hc => e3 c (by omega))
  refine ⟨H.hd.same (e3 h (by omega)), k1, H.gh, H.sh, ?_, fun j y m hy hm => ?_, k3⟩
  · have h1 := H.dr
    rw [show (a ++ [([] : List UInt8)]).length = a.length + 1 by simp] at h1
    have h2 := own_set1 (u := x) h1 (Nat.lt_succ_self a.length)
    rw [show (a ++ [l]).length = a.length + 1 by simp]
    rw [show (ds ++ [Value.slice none 0 0]).set a.length x = ds ++ [x] by rw [← hll]; simp] at h2
    exact h2
  · by_cases hj : j < a.length
    · rw [List.getElem?_append_left (by omega)] at hy
      rw [List.getElem?_append_left hj] at hm
      exact k2 j y m (by rw [List.getElem?_append_left (by omega)]; exact hy) (by rw [List.getElem?_append_left hj]; exact hm)
    · rw [List.getElem?_append_right (by omega), hll] at hy
      rw [List.getElem?_append_right (by omega)] at hm
      have hj0 : j - a.length = 0 := by
        have := (List.getElem?_eq_some_iff.1 hm).1
        simp at this; omega
      rw [hj0] at hy hm
      simp at hy hm
      subst hy hm
      exact hx.gw k3
theorem Nv.drew (H : Nv bz W h g sl dv t a ds fd w) : Nv bz W h g sl dv t a ds fd w.drew :=
  ⟨H.hd, H.tr.same (fun _ _ => rfl), H.gh, H.sh, own_same H.dr (fun _ _ => rfl), fun j x l hx hl => (H.by_ j x l hx hl).gw (Gw.refl w).drew, H.gw.drew⟩
theorem Nv.done (H : Nv bz W h g sl dv t a ds fd w) (hbz : bz ≤ W.heap.size) (ok : FOm ⟨t, a, [], fd⟩) : ∃ tau G, FR bz tau G w h ⟨t, a, [], fd⟩ ∧ ∀ k, k < W.heap.size → tau k = 0 := by
  have hg := H.gh
  have hB := H.tr.hB
  have hl := H.hd.lt
  have wkT : RT bz w g sl t := by
    refine ⟨H.tr.hd, ⟨H.tr.row.1, ?_⟩, H.tr.ne, by omega, H.tr.len⟩
    rcases H.tr.row.2 with h0 | ⟨b, cap, cur, h0, h1, h2⟩
    · exact .inl h0
    · exact .inr ⟨b, cap, cur, h0, by omega, h2⟩
  have wkD : w.ownsRow bz 52 1 dv a.length ds := by
    refine ⟨H.dr.1, ?_⟩
    rcases H.dr.2 with h0 | ⟨b, cap, cur, h0, h1, h2⟩
    · exact .inl h0
    · exact .inr ⟨b, cap, cur, h0, by omega, h2⟩
  refine ⟨fun b => if b = h then 1 else if b = g ∨ sl.ownBlock = some b then 2 else if dv.ownBlock = some b then 3 else 0, ⟨g, sl, dv, .slice none 0 0, ds, []⟩,
    ⟨H.hd, wkT, wkD, World.ownsRow_nil _ _ _ 1, fun i b x hb => (by simp at hb), fun j x l hx hm => ?_, if_pos rfl, ?_, fun b hb => ?_, fun b hb => ?_, fun b hb => (by cases hb), fun i b hb => (by simp at hb), fun b hb => ?_, by omega, ok⟩, fun k hk => ?_⟩
  · obtain ⟨A, cap, h1, h2, h3, h4⟩ := H.by_ j x l hx hm
    refine ⟨A, cap, h1, h2, h3, fun j c hj => ?_⟩
    obtain ⟨b, off, e, ht, hc⟩ := h4 j c hj
    exact ⟨b, off, e, .inl (ht.resolve_right (fun e => by cases e)), hc⟩
  · show (if g = h then 1 else _) = 2
    rw [if_neg (by omega), if_pos (.inl rfl)]
  · have := (H.sh b hb).2
    show (if b = h then 1 else _) = 2
    rw [if_neg (by omega), if_pos (.inr hb)]
  · have := (H.dvh b hb).1
    show (if b = h then 1 else _) = 3
    rw [if_neg (by omega), if_neg (fun e => by rcases e with e | e
                                               · omega
                                               · have := (H.sh b e).2; omega), if_pos hb]
  · by_cases h1 : b = h
    · rw [h1]; omega
    · have hb : (if b = h then 1 else if b = g ∨ sl.ownBlock = some b then 2 else if dv.ownBlock = some b then 3 else 0) ≠ 0 := hb
      rw [if_neg h1] at hb
      by_cases h2 : b = g ∨ sl.ownBlock = some b
      · rcases h2 with h2 | h2
        · omega
        · have := H.sh b h2; omega
      · rw [if_neg h2] at hb
        by_cases h3 : dv.ownBlock = some b
        · have := H.dvh b h3; omega
        · rw [if_neg h3] at hb; exact absurd rfl hb
  · show (if k = h then 1 else _) = 0
    rw [if_neg (by omega), if_neg (fun e => by rcases e with e | e
                                               · omega
                                               · have := (H.sh k e).1; omega), if_neg (fun e => by have := (H.dvh k e).1; omega)]
end
end Go.Proofs.Ytckoapfmfpmdgaa
