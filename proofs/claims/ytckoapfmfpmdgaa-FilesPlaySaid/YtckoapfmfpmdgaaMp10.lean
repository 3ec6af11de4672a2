/-
  Parts of the proof, joined: FileR, FileA, FileB, FileC, FileS.
-/
import Derived.Test.YtckoapfmfpmdgaaMp02
import Derived.Test.YtckoapfmfpmdgaaMp09

namespace Go.Proofs.Ytckoapfmfpmdgaa
open Go.ChangeShapes Go.WideShapes Go.ChangeAt Go.RowKit Go.Joins
set_option linter.unusedVariables false
set_option linter.unusedSimpArgs false

/-- Where what is of a file system lies. -/
structure Gd where
  g : Nat
  sl : Value
  dv : Value
  ov : Value
  ds : List Value
  ps : List Nat
def hC (g : Nat) (dv ov : Value) (fd : List Int) : Array Value := (Value.pointer (some ⟨g, 0, none⟩) :: dv :: ov :: fd.map (Value.int .i64)).toArray
theorem hC_fd {g : Nat} {dv ov : Value} {fd : List Int} {i : Nat} {k : Int} (h : fd[i]? = some k) : (hC g dv ov fd)[3 + i]? = some (.int .i64 k) := by
  unfold hC
  rw [show 3 + i = i + 1 + 1 + 1 by omega]
  simp [h]
theorem hC_setfd (g : Nat) (dv ov : Value) (fd : List Int) (i : Nat) (k : Int) : (hC g dv ov fd).setIfInBounds (3 + i) (.int .i64 k) = hC g dv ov (fd.set i k) := by
  unfold hC
  rw [show 3 + i = i + 1 + 1 + 1 by omega]
  simp [List.map_set]
theorem hC_setdv (g : Nat) (dv ov x : Value) (fd : List Int) : (hC g dv ov fd).setIfInBounds 1 x = hC g x ov fd := by simp [hC]
theorem hC_setov (g : Nat) (dv ov x : Value) (fd : List Int) : (hC g dv ov fd).setIfInBounds 2 x = hC g dv x fd := by simp [hC]
/-- A slice of bytes that nobody writes. -/
def BtAt (bz : Nat) (tau : Nat → Nat) (w : World) (x : Value) (l : List UInt8) : Prop := ∃ A cap, x = .slice A l.length cap ∧ l.length ≤ cap ∧ cap ≤ 9223372036854775807 ∧
  ∀ (j : Nat) c, l[j]? = some c → ∃ b off, A = some ⟨b, off, none⟩ ∧ (b < bz ∨ tau b = 5) ∧ w.cell? ⟨b, off + j, none⟩ = some (.int .u8 (c.toNat : Int))
def opC (x : Nat × Nat) : Array Value := #[.int .i64 (x.1 : Int), .int .i64 (x.2 : Int)]
def ptV (b : Nat) : Value := .pointer (some ⟨b, 0, none⟩)
/-- Parts: 1 the head, 2 the tree, 3 the row of bytes, 4 the row of open files, 5 bytes, 6 + i the i-th open file; 0: not its own. -/
structure FR (bz : Nat) (tau : Nat → Nat) (G : Gd) (w : World) (h : Nat) (s : Fs) : Prop where
  hd : Has w h 118 (hC G.g G.dv G.ov s.fd)
  tr : RT bz w G.g G.sl s.t
  dr : w.ownsRow bz 52 1 G.dv s.d.length G.ds
  or_ : w.ownsRow bz 134 1 G.ov s.o.length (G.ps.map ptV)
  oc : ∀ (i b : Nat) x, G.ps[i]? = some b → s.o[i]? = some x → Has w b 136 (opC x)
  by_ : ∀ (i : Nat) x l, G.ds[i]? = some x → s.d[i]? = some l → BtAt bz tau w x l
  th : tau h = 1
  tg : tau G.g = 2
  ts : ∀ b, G.sl.ownBlock = some b → tau b = 2
  td : ∀ b, G.dv.ownBlock = some b → tau b = 3
  tov : ∀ b, G.ov.ownBlock = some b → tau b = 4
  tp : ∀ (i b : Nat), G.ps[i]? = some b → tau b = 6 + i
  lt : ∀ b, tau b ≠ 0 → bz ≤ b ∧ b < w.heap.size
  hz : bz ≤ w.heap.size
  ok : FOm s
/-- Nothing but blocks of its own has changed. -/
structure Fc (tau : Nat → Nat) (w w' : World) : Prop where
  os : w'.os = w.os
  output : w'.output = w.output
  size : w.heap.size ≤ w'.heap.size
  block : ∀ k, k < w.heap.size → tau k = 0 → w'.heap[k]? = w.heap[k]?
/-- How a file system is, behind what was done to it. -/
structure FTo (bz : Nat) (tau : Nat → Nat) (w : World) (h : Nat) (s' : Fs) (w' : World) : Prop where
  ch : Fc tau w w'
  ex : ∃ tau' G', FR bz tau' G' w' h s' ∧ ∀ k, k < w.heap.size → tau' k ≠ 0 → tau k ≠ 0
theorem own_same {w w' : World} {base : Nat} {e : TypeId} {size n : Nat} {v : Value} {xs : List Value} (h : w.ownsRow base e size v n xs) (k : ∀ b, v.ownBlock = some b → w'.heap[b]? = w.heap[b]?) : w'.ownsRow base e size v n xs := by
  refine ⟨h.1, ?_⟩
  rcases h.2 with h0 | ⟨b, cap, cur, h0, h1, h2, h3⟩
  · exact .inl h0
  · exact .inr ⟨b, cap, cur, h0, h1, (k b (by rw [h0]; rfl)).trans h2, h3⟩
section
variable {bz : Nat} {tau : Nat → Nat} {G : Gd} {w : World} {h : Nat} {s : Fs}
theorem FR.len (H : FR bz tau G w h s) : G.ds.length = s.d.length ∧ G.ps.length = s.o.length := by
  have h1 := H.dr.1
  have h2 := H.or_.1
  rw [Nat.mul_one] at h1 h2
  exact ⟨h1, by simpa using h2⟩
theorem BtAt.on {x : Value} {l : List UInt8} (H : BtAt bz tau w x l) {w' : World} {tau' : Nat → Nat} (k : ∀ b, b < w.heap.size → (b < bz ∨ tau b = 5) → w'.heap[b]? = w.heap[b]? ∧ (b < bz ∨ tau' b = 5)) : BtAt bz tau' w' x l := by
  obtain ⟨A, cap, h1, h2, h3, h4⟩ := H
  refine ⟨A, cap, h1, h2, h3, fun j c hj => ?_⟩
  obtain ⟨b, off, e, ht, hc⟩ := h4 j c hj
  obtain ⟨a1, a2⟩ := k b (lt_cell hc) ht
  exact ⟨b, off, e, a2, (World.cell?_of_block (a := ⟨b, off + j, none⟩) a1).trans hc⟩
theorem FR.same (H : FR bz tau G w h s) {w' : World} (hsz : w.heap.size ≤ w'.heap.size) (k : ∀ b, b < w.heap.size → (b < bz ∨ tau b ≠ 0) → w'.heap[b]? = w.heap[b]?) : FR bz tau G w' h s := by
  have q : ∀ b n, tau b = n + 1 → w'.heap[b]? = w.heap[b]? := fun b n e => k b (H.lt b (by omega)).2 (.inr (by omega))
  refine ⟨H.hd.same (q h 0 H.th), H.tr.same (fun b hb => ?_), own_same H.dr (fun b hb => q b 2 (H.td b hb)), own_same H.or_ (fun b hb => q b 3 (H.tov b hb)), fun i b x hb hx => (H.oc i b x hb hx).same (q b (5 + i) (by rw [H.tp i b hb]; omega)),
    fun i x l hx hl => (H.by_ i x l hx hl).on fun b hb ht => ⟨k b hb (ht.imp id (fun e => by omega)), ht⟩, H.th, H.tg, H.ts, H.td, H.tov, H.tp, fun b hb => ⟨(H.lt b hb).1, Nat.lt_of_lt_of_le (H.lt b hb).2 hsz⟩, Nat.le_trans H.hz hsz, H.ok⟩
  rcases hb with rfl | hb
  · exact q _ 1 H.tg
  · exact q b 1 (H.ts b hb)
theorem FR.on (H : FR bz tau G w h s) {w' : World} (K : Gw w w') : FR bz tau G w' h s := H.same K.size (fun b hb _ => K.block b hb)
theorem FTo.of_gw (H : FR bz tau G w h s) {w' : World} (K : Gw w w') : FTo bz tau w h s w' := ⟨⟨K.os, K.output, K.size, fun k hk _ => K.block k hk⟩, tau, G, H.on K, fun _ _ hk => hk⟩
/-- One of the descriptors has changed. -/
theorem FR.setfd (H : FR bz tau G w h s) {i : Nat} {k : Int} (hk : -1 ≤ k ∧ k < s.o.length) : FTo bz tau w h { s with fd := s.fd.set i k } (w.setCell ⟨h, 3 + i, none⟩ (.int .i64 k)) := by
  have q : ∀ b, b ≠ h → (w.setCell ⟨h, 3 + i, none⟩ (.int .i64 k)).heap[b]? = w.heap[b]? := fun b hb => set_other (p := ⟨h, 3 + i, none⟩) hb
  have ne : ∀ b n, tau b = n → n ≠ 1 → b ≠ h := fun b n e hn e2 => hn (by rw [← e, e2, H.th])
  refine ⟨⟨rfl, rfl, by simp, fun b _ hb => q b (ne b 0 hb (by decide))⟩, tau, G, ?_, fun _ _ hk => hk⟩
  have hz : (w.setCell ⟨h, 3 + i, none⟩ (.int .i64 k)).heap.size = w.heap.size := by simp
  refine ⟨?_, H.tr.same (fun b hb => ?_), own_same H.dr (fun b hb => q b (ne b 3 (H.td b hb) (by decide))), own_same H.or_ (fun b hb => q b (ne b 4 (H.tov b hb) (by decide))), fun j b x hb hx => (H.oc j b x hb hx).same (q b (ne b (6 + j) (H.tp j b hb) (by omega))),
    fun j x l hx hl => (H.by_ j x l hx hl).on fun b hb ht => ⟨q b ?_, ht⟩, H.th, H.tg, H.ts, H.td, H.tov, H.tp, fun b hb => by rw [hz]; exact H.lt b hb, by rw [hz]; exact H.hz, ?_⟩
  · have := H.hd.put (3 + i) (.int .i64 k)
    rw [hC_setfd] at this
    exact this
  · rcases hb with rfl | hb
    · exact q _ (ne _ 2 H.tg (by decide))
    · exact q b (ne b 2 (H.ts b hb) (by decide))
  · rcases ht with ht | ht
    · intro e
      have := (H.lt h (by rw [H.th]; decide)).1
      omega
    · exact ne b 5 ht (by decide)
  · refine ⟨by simp [H.ok.fl], fun j q hq => ?_, H.ok.os, H.ok.ds⟩
    rw [List.getElem?_set] at hq
    split at hq
    · split at hq
      · cases hq; exact hk
      · cases hq
    · exact H.ok.fds j q hq
/-- The offset of one of the open files has changed. -/
theorem FR.setat (H : FR bz tau G w h s) {i b a : Nat} (hb : G.ps[i]? = some b) (hi : i < s.o.length) (ha : a ≤ 263) : FTo bz tau w h { s with o := s.o.set i (filI s i, a) } (w.setCell ⟨b, 1, none⟩ (.int .i64 (a : Int))) := by
  have q : ∀ c, c ≠ b → (w.setCell ⟨b, 1, none⟩ (.int .i64 (a : Int))).heap[c]? = w.heap[c]? := fun c hc => set_other (p := ⟨b, 1, none⟩) hc
  have tb := H.tp i b hb
  have ne : ∀ c n, tau c = n → n ≠ 6 + i → c ≠ b := fun c n e hn e2 => hn (by rw [← e, e2, tb])
  refine ⟨⟨rfl, rfl, by simp, fun c _ hc => q c (ne c 0 hc (by omega))⟩, tau, G, ?_, fun _ _ hk => hk⟩
  have hz : (w.setCell ⟨b, 1, none⟩ (.int .i64 (a : Int))).heap.size = w.heap.size := by simp
  refine ⟨H.hd.same (q h (ne h 1 H.th (by omega))), H.tr.same (fun c hc => ?_), own_same H.dr (fun c hc => q c (ne c 3 (H.td c hc) (by omega))), ?_, fun j c x hc hx => ?_,
    fun j x l hx hl => (H.by_ j x l hx hl).on fun c hc ht => ⟨q c ?_, ht⟩, H.th, H.tg, H.ts, H.td, H.tov, H.tp, fun c hc => by rw [hz]; exact H.lt c hc, by rw [hz]; exact H.hz, ?_⟩
  · rcases hc with rfl | hc
    · exact q _ (ne _ 2 H.tg (by omega))
    · exact q c (ne c 2 (H.ts c hc) (by omega))
  · rw [List.length_set]
    exact own_same H.or_ (fun c hc => q c (ne c 4 (H.tov c hc) (by omega)))
  · rw [List.getElem?_set] at hx
    by_cases e : i = j
    · subst e
      rw [if_pos rfl, if_pos hi] at hx
      cases hx
      have hcb : c = b := by rw [hb] at hc; exact (Option.some.inj hc).symm
      subst hcb
      have := (H.oc i c _ hc (get_get hi)).put 1 (.int .i64 (a : Int))
      exact this
    · rw [if_neg e] at hx
      exact (H.oc j c x hc hx).same (q c (ne c (6 + j) (H.tp j c hc) (by omega)))
  · rcases ht with ht | ht
    · intro e
      have := (H.lt b (by rw [tb]; omega)).1
      omega
    · exact ne c 5 ht (by omega)
  · refine ⟨H.ok.fl, fun j k hk => by rw [List.length_set]; exact H.ok.fds j k hk, fun j x hx => ?_, H.ok.ds⟩
    rw [List.getElem?_set] at hx
    by_cases e : i = j
    · subst e
      rw [if_pos rfl, if_pos hi] at hx
      cases hx
      exact ⟨(get_dat H.ok hi).1, ha⟩
    · rw [if_neg e] at hx
      exact H.ok.os j x hx
/-- The rows, as slices. -/
theorem own_sl {e : TypeId} {v : Value} {n : Nat} {xs : List Value} {B : Nat} (H : w.ownsRow B e 1 v n xs) : (v = .slice none 0 0 ∧ n = 0) ∨ ∃ r cap, v = .slice (some ⟨r, 0, none⟩) n cap ∧ n ≤ cap ∧ cap ≤ 9223372036854775807 ∧ (∀ (i : Nat) x, xs[i]? = some x → w.cell? ⟨r, i, none⟩ = some x ∧ w.frozen? ⟨r, i, none⟩ = false) := by
  rcases H.2 with h0 | ⟨r, cap, cur, h0, h1, h2, h3, h4, h5, h6⟩
  · exact .inl h0
  · refine .inr ⟨r, cap, h0, h3, h4, fun i x hx => ⟨?_, ?_⟩⟩
    · rw [← h6, List.getElem?_take] at hx
      rw [cell_of_row w r i cur _ _ h2]
      split at hx
      · simpa using hx
      · cases hx
    · unfold World.frozen?; rw [h2]; simp
end
end Go.Proofs.Ytckoapfmfpmdgaa

namespace Go.Proofs.Ytckoapfmfpmdgaa
open Go.ChangeShapes Go.WideShapes Go.ChangeAt Go.RowKit Go.Joins
set_option linter.unusedVariables false
set_option linter.unusedSimpArgs false

section
variable {bz : Nat} {tau : Nat → Nat} {G : Gd} {w : World} {h : Nat} {s : Fs}
theorem FR.fdc (H : FR bz tau G w h s) {i : Nat} {k : Int} (hk : s.fd[i]? = some k) : w.cell? ⟨h, 3 + i, none⟩ = some (.int .i64 k) ∧ w.frozen? ⟨h, 3 + i, none⟩ = false := ⟨(H.hd.cell _).trans (hC_fd hk), H.hd.free _⟩
theorem FR.fdx (H : FR bz tau G w h s) {i : Nat} (hi : i < 4) : ∃ k, s.fd[i]? = some k := ⟨_, List.getElem?_eq_getElem (by rw [H.ok.fl]; exact hi)⟩
theorem free_at {fd : List Int} {i : Nat} {k : Int} (H : ∀ x ∈ fd.take i, ¬ x < 0) (hi : fd[i]? = some k) (hk : k < 0) : freeI fd = i := by
  unfold freeI
  obtain ⟨h1, h2⟩ := List.getElem?_eq_some_iff.1 hi
  have : fd.findIdx? (fun k => decide (k < 0)) = some i := List.findIdx?_eq_some_iff_getElem.2 ⟨h1, by rw [h2]; exact decide_eq_true hk, fun j hj => by
    have := H fd[j] (List.mem_take_iff_getElem.2 ⟨j, by omega, rfl⟩)
    simpa using this⟩
  rw [this]
theorem free_no {fd : List Int} (H : ∀ x ∈ fd, ¬ x < 0) : freeI fd = -1 := by
  unfold freeI
  rw [List.findIdx?_eq_none_iff.2 (fun x hx => by simpa using H x hx)]
set_option maxRecDepth 100000 in
set_option maxHeartbeats 4000000 in
theorem free_any (H : FR bz tau G w h s) : Calls Try.prog 88 #[.pointer (some ⟨h, 0, none⟩)] w fun e w' => e = .returned (.int .i64 (freeI s.fd)) ∧ w = w' := by
  have HH := Lib.hid H
  obtain ⟨r, hr⟩ : ∃ r, r = freeI s.fd := ⟨_, rfl⟩
  rw [← hr]
  have HR := Lib.hid hr
  clear hr H
  go_enter Try.func88, Try.ntmps88
  go_upto_region 2 with fail
  go_loopw [3] (fun i wr => ∃ k : Nat, k ≤ 4 ∧ i = .int .i64 k ∧ w = wr ∧ Hid (∀ x ∈ s.fd.take k, ¬ x < 0)) (fun i _ => 4 - (intOf i).toNat)
  case atStart => exact ⟨0, by omega, rfl, rfl, fun x hx => by simp at hx⟩
  case round =>
    obtain ⟨k, hk, rfl, rfl, HK⟩ := hrel
    by_cases hk4 : k < 4
    · obtain ⟨x, hx⟩ := HH.out.fdx hk4
      obtain ⟨c0, f0⟩ := HH.out.fdc hx
      have HX := Lib.hid hx
      clear hx
      by_cases h0 : x < 0
      · have hfr := Lib.hid (free_at HK.out HX.out h0)
        go_wp2
        go_ret
        exact ⟨by rw [HR.out, hfr.out]; rfl, rfl⟩
      · have d0 : decide (x < 0) = false := decide_eq_false h0
        have HN : Hid (∀ y ∈ s.fd.take (k + 1), ¬ y < 0) := by
          obtain ⟨hi, he⟩ := List.getElem?_eq_some_iff.1 HX.out
          intro y hy
          rw [List.take_succ_eq_append_getElem hi, he] at hy
          rcases List.mem_append.1 hy with hy | hy
          · exact HK.out y hy
          · rw [List.mem_singleton.1 hy]; exact h0
        go_wp2
        go_roundw
        case rel => exact ⟨k + 1, by omega, by go_num, trivial, HN⟩
        case measure => simp [intOf]; omega
    · have hk4' : k = 4 := by omega
      have hfr := Lib.hid (free_no (by have := HK.out; rw [hk4', ← HH.out.ok.fl, List.take_length] at this; exact this))
      have d4 : decide ((k : Int) < 4) = false := decide_eq_false (by omega)
      clear hk4'
      go_wp2
      go_ret
      exact ⟨by rw [HR.out, hfr.out]; rfl, rfl⟩
/-- What of answers. -/
def ofV (G : Gd) (s : Fs) (fd : Nat) : Value := match ofI s fd with | none => .pointer none | some i => match G.ps[i]? with | none => .pointer none | some b => ptV b
theorem FR.pt (H : FR bz tau G w h s) {i : Nat} (hi : i < s.o.length) : ∃ b, G.ps[i]? = some b := ⟨_, List.getElem?_eq_getElem (by rw [H.len.2]; exact hi)⟩
set_option maxRecDepth 100000 in
set_option maxHeartbeats 4000000 in
theorem of_file (H : FR bz tau G w h s) (fd : Nat) (hfd : fd ≤ 65535) : Calls Try.prog 89 #[.pointer (some ⟨h, 0, none⟩), .int .u16 (fd : Int)] w fun e w' => e = .returned (ofV G s fd) ∧ Gw w w' := by
  have HH := Lib.hid H
  by_cases h4 : 4 ≤ fd
  · have h4' : (4 : Int) ≤ fd := by omega
    have hn : s.fd[fd]? = none := List.getElem?_eq_none (by rw [H.ok.fl]; exact h4)
    have hv : ofV G s fd = .pointer none := by unfold ofV ofI; rw [hn]
    rw [hv]
    clear hv hn H
    go_enter Try.func89, Try.ntmps89
    go_wp2
    go_ret
    exact ⟨rfl, Gw.refl _⟩
  · have h4' : decide ((4 : Int) ≤ fd) = false := decide_eq_false (by omega)
    have h4n : fd < 4 := by omega
    obtain ⟨k, hk⟩ := H.fdx h4n
    obtain ⟨c0, f0⟩ := H.fdc hk
    by_cases h0 : k < 0
    · have hv : ofV G s fd = .pointer none := by unfold ofV ofI; rw [hk]; simp only [h0, if_true]
      rw [hv]
      clear hv hk H
      go_enter Try.func89, Try.ntmps89
      go_wp2
      go_ret
      exact ⟨rfl, Gw.refl _⟩
    · have d0 : decide (k < 0) = false := decide_eq_false h0
      obtain ⟨i, rfl⟩ : ∃ i : Nat, k = i := ⟨k.toNat, by omega⟩
      have hil := (H.ok.fds fd _ hk).2
      have hi : i < s.o.length := by omega
      obtain ⟨b, hb⟩ := H.pt hi
      have hv : ofV G s fd = ptV b := by unfold ofV ofI; rw [hk]; simp only [h0, if_false, Int.toNat_natCast, hb]
      rw [hv]
      have c1 : w.cell? ⟨h, 2, none⟩ = some G.ov := H.hd.cell 2
      rcases own_sl H.or_ with ⟨_, h2⟩ | ⟨r, cap, h2, h3, h5, h6⟩
      · omega
      have c2 := (h6 i (ptV b) (by rw [List.getElem?_map, hb]; rfl)).1
      rw [h2] at c1
      unfold ptV at c2 ⊢
      generalize s.o.length = N at *
      clear hv hk H hb h6 h2
      go_enter Try.func89, Try.ntmps89
      go_upto_region 3 with fail
      go_quiet (fail)
      go_wp2
      go_ret
      exact ⟨rfl, (Gw.refl _).drewM nq⟩
end
end Go.Proofs.Ytckoapfmfpmdgaa

namespace Go.Proofs.Ytckoapfmfpmdgaa
open Go.ChangeShapes Go.WideShapes Go.ChangeAt Go.RowKit Go.Joins
set_option linter.unusedVariables false
set_option linter.unusedSimpArgs false

section
variable {bz : Nat} {tau : Nat → Nat} {G : Gd} {w : World} {h : Nat} {s : Fs}
theorem FTo.gw {w1 w' : World} {s' : Fs} (K : Gw w w1) (H : FTo bz tau w1 h s' w') : FTo bz tau w h s' w' := by
  obtain ⟨tau', G', h1, h2⟩ := H.ex
  exact ⟨⟨H.ch.os.trans K.os, H.ch.output.trans K.output, Nat.le_trans K.size H.ch.size, fun k hk ht => (H.ch.block k (Nat.lt_of_lt_of_le hk K.size) ht).trans (K.block k hk)⟩, tau', G', h1, fun k hk ht => h2 k (Nat.lt_of_lt_of_le hk K.size) ht⟩
theorem ofV_no {fd : Nat} (hi : ofI s fd = none) : ofV G s fd = .pointer none := by unfold ofV; rw [hi]
theorem ofV_at {fd i b : Nat} (hi : ofI s fd = some i) (hb : G.ps[i]? = some b) : ofV G s fd = .pointer (some ⟨b, 0, none⟩) := by unfold ofV; rw [hi]; simp only [hb]; rfl
set_option maxRecDepth 100000 in
set_option maxHeartbeats 4000000 in
theorem rclose_any (H : FR bz tau G w h s) (fd : Nat) (hfd : fd ≤ 65535) : Calls Try.prog 60 #[.pointer (some ⟨h, 0, none⟩), .int .u16 (fd : Int)] w fun e w' => e = .returned (.int .u16 (closeF s fd).1) ∧ FTo bz tau w h (closeF s fd).2 w' := by
  have OF := of_file H fd hfd
  have HH := Lib.hid H
  unfold closeF
  cases hi : ofI s fd with
  | none =>
    rw [ofV_no hi] at OF
    clear hi H
    go_enter Try.func60, Try.ntmps60
    go_wp2_with (go_at_call 89; with_reducible refine OF.mono ?_; rintro e w1 ⟨rfl, G1⟩)
    go_ret
    exact ⟨rfl, FTo.of_gw HH.out G1⟩
  | some i =>
    obtain ⟨h4, hil, hk⟩ := ofI_lt H.ok hi
    obtain ⟨b, hb⟩ := H.pt hil
    rw [ofV_at hi hb] at OF
    clear hi H
    go_enter Try.func60, Try.ntmps60
    go_upto_region 3 with (go_at_call 89; with_reducible refine OF.mono ?_; rintro e w1 ⟨rfl, G1⟩)
    have H1 := HH.out.on G1
    obtain ⟨c0, f0⟩ := H1.fdc hk
    have HP := Lib.hid (FTo.gw G1 (H1.setfd (i := fd) (k := -1) (by omega)))
    clear H1 hk hb
    go_wp2
    go_ret
    exact ⟨rfl, HP.out⟩
set_option maxRecDepth 100000 in
set_option maxHeartbeats 4000000 in
theorem rtwin_any (H : FR bz tau G w h s) (fd : Nat) (hfd : fd ≤ 65535) : Calls Try.prog 66 #[.pointer (some ⟨h, 0, none⟩), .int .u16 (fd : Int)] w fun e w' => e = .returned (.int .u16 (twinF s fd).1) ∧ FTo bz tau w h (twinF s fd).2 w' := by
  have OF := of_file H fd hfd
  have HH := Lib.hid H
  unfold twinF
  cases hi : ofI s fd with
  | none =>
    rw [ofV_no hi] at OF
    clear hi H
    go_enter Try.func66, Try.ntmps66
    go_wp2_with (go_at_call 89; with_reducible refine OF.mono ?_; rintro e w1 ⟨rfl, G1⟩)
    go_ret
    exact ⟨rfl, FTo.of_gw HH.out G1⟩
  | some i =>
    obtain ⟨h4, hil, hk⟩ := ofI_lt H.ok hi
    obtain ⟨b, hb⟩ := H.pt hil
    rw [ofV_at hi hb] at OF
    obtain ⟨r, hr⟩ : ∃ r, r = freeI s.fd := ⟨_, rfl⟩
    have FV := fun w' (K : Gw w w') => free_any (H.on K)
    simp only
    rw [← hr] at FV ⊢
    clear hi
    by_cases h0 : r < 0
    · have d0 : decide (r < 0) = true := decide_eq_true h0
      rw [if_pos h0]
      clear h0 hr H
      go_enter Try.func66, Try.ntmps66
      go_wp2_with (first
        | (go_at_call 89; with_reducible refine OF.mono ?_; rintro e w1 ⟨rfl, G1⟩)
        | (go_at_call 88; with_reducible refine (FV _ G1).mono ?_; rintro e w2 ⟨rfl, rfl⟩))
      go_ret
      exact ⟨rfl, FTo.of_gw HH.out G1⟩
    · have d0 : decide (r < 0) = false := decide_eq_false h0
      rw [if_neg h0]
      obtain ⟨n, hn, hn2⟩ := freeI_lt (fd := s.fd) (by rw [← hr]; exact h0)
      rw [H.ok.fl] at hn2
      obtain rfl : r = n := hr.trans hn
      obtain ⟨k2, hk2⟩ := H.fdx hn2
      clear h0 hr hn d0
      go_enter Try.func66, Try.ntmps66
      go_upto_region 6 with (first
        | (go_at_call 89; with_reducible refine OF.mono ?_; rintro e w1 ⟨rfl, G1⟩)
        | (go_at_call 88; with_reducible refine (FV _ G1).mono ?_; rintro e w2 ⟨rfl, rfl⟩))
      have H1 := HH.out.on (G1.trans (Gw.refl _).drew)
      obtain ⟨c0, f0⟩ := H1.fdc hk
      obtain ⟨c1, f1⟩ := H1.fdc hk2
      have HP := Lib.hid (FTo.gw (G1.trans (Gw.refl _).drew) (H1.setfd (i := n) (k := (i : Int)) (by omega)))
      clear H1 hk hk2 hb H
      go_region
      go_wp2
      go_ret
      exact ⟨by simp, HP.out⟩
end
end Go.Proofs.Ytckoapfmfpmdgaa

namespace Go.Proofs.Ytckoapfmfpmdgaa
open Go.ChangeShapes Go.WideShapes Go.ChangeAt Go.RowKit Go.Joins
set_option linter.unusedVariables false
set_option linter.unusedSimpArgs false

section
variable {bz : Nat} {tau : Nat → Nat} {G : Gd} {w : World} {h : Nat} {s : Fs}
/-- The cells of an open file, and of the row of bytes. -/
theorem FR.opc (H : FR bz tau G w h s) {i b : Nat} (hb : G.ps[i]? = some b) (hi : i < s.o.length) : w.cell? ⟨b, 0, none⟩ = some (.int .i64 (filI s i : Int)) ∧ w.cell? ⟨b, 1, none⟩ = some (.int .i64 (offI s i : Int)) ∧ w.frozen? ⟨b, 1, none⟩ = false := by
  have := H.oc i b _ hb (get_get hi)
  exact ⟨this.cell 0, this.cell 1, this.free 1⟩
theorem FR.row (H : FR bz tau G w h s) {f : Nat} (hf : f < s.d.length) : ∃ r cap x, w.cell? ⟨h, 1, none⟩ = some (.slice (some ⟨r, 0, none⟩) s.d.length cap) ∧ s.d.length ≤ cap ∧ cap ≤ 9223372036854775807 ∧ G.ds[f]? = some x ∧ w.cell? ⟨r, f, none⟩ = some x ∧ w.frozen? ⟨r, f, none⟩ = false ∧ G.dv = .slice (some ⟨r, 0, none⟩) s.d.length cap := by
  have c1 : w.cell? ⟨h, 1, none⟩ = some G.dv := H.hd.cell 1
  obtain ⟨x, hx⟩ : ∃ x, G.ds[f]? = some x := ⟨_, List.getElem?_eq_getElem (by rw [H.len.1]; exact hf)⟩
  rcases own_sl H.dr with ⟨_, h2⟩ | ⟨r, cap, h2, h3, h5, h6⟩
  · omega
  · exact ⟨r, cap, x, by rw [c1, h2], h3, h5, hx, (h6 f x hx).1, (h6 f x hx).2, h2⟩
set_option maxRecDepth 100000 in
set_option maxHeartbeats 4000000 in
theorem rseek_any (H : FR bz tau G w h s) (fd a : Nat) (hfd : fd ≤ 65535) (ha : a ≤ 65535) : Calls Try.prog 63 #[.pointer (some ⟨h, 0, none⟩), .int .u16 (fd : Int), .int .u16 (a : Int)] w fun e w' => e = .returned (.int .u16 (seekF s fd a).1) ∧ FTo bz tau w h (seekF s fd a).2 w' := by
  have OF := of_file H fd hfd
  have HH := Lib.hid H
  unfold seekF
  cases hi : ofI s fd with
  | none =>
    rw [ofV_no hi] at OF
    clear hi H
    go_enter Try.func63, Try.ntmps63
    go_wp2_with (go_at_call 89; with_reducible refine OF.mono ?_; rintro e w1 ⟨rfl, G1⟩)
    go_ret
    exact ⟨rfl, FTo.of_gw HH.out G1⟩
  | some i =>
    obtain ⟨h4, hil, hk⟩ := ofI_lt H.ok hi
    obtain ⟨b, hb⟩ := H.pt hil
    rw [ofV_at hi hb] at OF
    simp only
    clear hi H
    by_cases h255 : 255 < a
    · rw [if_pos h255]
      have e1 : (255 : Int) < (a : Int) := by omega
      go_enter Try.func63, Try.ntmps63
      go_wp2_with (go_at_call 89; with_reducible refine OF.mono ?_; rintro e w1 ⟨rfl, G1⟩)
      go_ret
      exact ⟨rfl, FTo.of_gw HH.out G1⟩
    · rw [if_neg h255]
      have e1 : decide ((255 : Int) < (a : Int)) = false := decide_eq_false (by omega)
      go_enter Try.func63, Try.ntmps63
      go_upto_region 6 with (go_at_call 89; with_reducible refine OF.mono ?_; rintro e w1 ⟨rfl, G1⟩)
      have H1 := HH.out.on G1
      obtain ⟨c0, c1, f1⟩ := H1.opc hb hil
      have HP := Lib.hid (FTo.gw G1 (H1.setat hb hil (a := a) (by omega)))
      clear H1 hk hb h255
      go_wp2
      go_ret
      exact ⟨rfl, HP.out⟩
set_option maxRecDepth 100000 in
set_option maxHeartbeats 4000000 in
theorem rsize_any (H : FR bz tau G w h s) (fd : Nat) (hfd : fd ≤ 65535) : Calls Try.prog 64 #[.pointer (some ⟨h, 0, none⟩), .int .u16 (fd : Int)] w fun e w' => e = .returned (.int .u16 (sizeF s fd)) ∧ Gw w w' := by
  have OF := of_file H fd hfd
  have HH := Lib.hid H
  unfold sizeF
  cases hi : ofI s fd with
  | none =>
    rw [ofV_no hi] at OF
    clear hi H
    go_enter Try.func64, Try.ntmps64
    go_wp2_with (go_at_call 89; with_reducible refine OF.mono ?_; rintro e w1 ⟨rfl, G1⟩)
    go_ret
    exact ⟨rfl, G1⟩
  | some i =>
    obtain ⟨h4, hil, hk⟩ := ofI_lt H.ok hi
    obtain ⟨b, hb⟩ := H.pt hil
    rw [ofV_at hi hb] at OF
    simp only
    obtain ⟨hf, hd, hd8, _⟩ := get_dat H.ok hil
    clear hi H
    go_enter Try.func64, Try.ntmps64
    go_upto_region 4 with (go_at_call 89; with_reducible refine OF.mono ?_; rintro e w1 ⟨rfl, G1⟩)
    have H1 := HH.out.on G1
    obtain ⟨c0, c1, f1⟩ := H1.opc hb hil
    obtain ⟨r, cap, x, d0, d1, d2, d3, d4, _⟩ := H1.row hf
    obtain ⟨A, cx, rfl, x1, x2, _⟩ := H1.by_ _ _ _ d3 hd
    generalize hlen : (datI s i).length = L at *
    have HL := Lib.hid hlen
    generalize filI s i = F at *
    generalize hN : s.d.length = N at *
    clear H1 hk hb hd hlen hN d3 OF
    go_quiet (fail)
    go_wp2
    go_ret
    exact ⟨by simp [HL.out], G1.trans ((Gw.refl _).drewM nq)⟩
/-- Bytes that are shown: of its own, or of what was there ahead. -/
def BtV (bz : Nat) (tau : Nat → Nat) (w : World) (x : Value) (l : List UInt8) : Prop := x = .slice none 0 0 ∧ l = [] ∨ BtAt bz tau w x l
set_option maxRecDepth 100000 in
set_option maxHeartbeats 4000000 in
theorem rbytes_file (H : FR bz tau G w h s) (ok : FOk s) (p : ByteArray) (hp : p.size ≤ 140737488351232) : Calls Try.prog 71 #[.pointer (some ⟨h, 0, none⟩), .string p] w fun e w' => ∃ x, e = .returned (.tuple #[x, .int .u16 (bytesF s p.data.toList).2]) ∧ BtV bz tau w' x (bytesF s p.data.toList).1 ∧ Gw w w' := by
  have HH := Lib.hid H
  have FI := rfind_any H.tr p hp
  have c0 : w.cell? ⟨h, 0, none⟩ = some (.pointer (some ⟨G.g, 0, none⟩)) := H.hd.cell 0
  unfold bytesF
  obtain ⟨r, hr⟩ : ∃ r, r = findT s.t.l p.data.toList := ⟨_, rfl⟩
  rw [← hr] at FI ⊢
  obtain ⟨r1, r2, r3⟩ := r
  simp only [fV] at FI
  simp only
  by_cases h3 : r3 = 0
  · subst h3
    rw [if_neg (by simp)]
    cases r2 with
    | true =>
      clear H hr
      go_enter Try.func71, Try.ntmps71
      go_wp2_with (go_at_call 47; with_reducible refine FI.mono ?_; rintro e w1 ⟨rfl, G1⟩)
      go_ret2
      exact ⟨_, rfl, .inl ⟨rfl, rfl⟩, G1⟩
    | false =>
      obtain ⟨_, _, i, hi, he⟩ := find0 (l := s.t.l) (p := p.data.toList) (by rw [← hr])
      rw [← hr] at he
      have hid := ok.ids i (look_mem hi)
      obtain ⟨f, hf⟩ : ∃ f : Nat, r1 = f := ⟨r1.toNat, by have : r1 = i.n := by injection he
                                                          omega⟩
      subst hf
      have hfl : f < s.d.length := by
        have : (f : Int) = i.n := by injection he
        omega
      simp only [Int.toNat_natCast, Bool.false_eq_true, if_false]
      obtain ⟨l, hl⟩ : ∃ l, s.d[f]? = some l := ⟨_, List.getElem?_eq_getElem hfl⟩
      rw [hl]
      simp only [Option.getD_some]
      clear H hr he hi hid ok
      go_enter Try.func71, Try.ntmps71
      go_upto_region 6 with (go_at_call 47; with_reducible refine FI.mono ?_; rintro e w1 ⟨rfl, G1⟩)
      have H1 := HH.out.on G1
      obtain ⟨r, cap, x, d0, d1, d2, d3, d4, _⟩ := H1.row hfl
      have HB := Lib.hid (H1.by_ _ _ _ d3 hl)
      generalize hN : s.d.length = N at *
      clear H1 hl hN d3
      go_wp2
      go_ret2
      exact ⟨_, rfl, .inr HB.out, G1⟩
  · rw [if_pos h3]
    have e3 : (r3 == 0) = false := beq_false_of_ne h3
    clear H hr
    go_enter Try.func71, Try.ntmps71
    go_wp2_with (go_at_call 47; with_reducible refine FI.mono ?_; rintro e w1 ⟨rfl, G1⟩)
    go_ret2
    exact ⟨_, rfl, .inl ⟨rfl, rfl⟩, G1⟩
end
end Go.Proofs.Ytckoapfmfpmdgaa

namespace Go.Proofs.Ytckoapfmfpmdgaa
open Go.ChangeShapes Go.WideShapes Go.ChangeAt Go.RowKit Go.Joins
set_option linter.unusedVariables false
set_option linter.unusedSimpArgs false

theorem own_set1 {w : World} {B : Nat} {e : TypeId} {n r cap i : Nat} {xs : List Value} {u : Value} (h : w.ownsRow B e 1 (.slice (some ⟨r, 0, none⟩) n cap) n xs) (hi : i < n) : (w.setCell ⟨r, i, none⟩ u).ownsRow B e 1 (.slice (some ⟨r, 0, none⟩) n cap) n (xs.set i u) := by
  refine ⟨by rw [List.length_set]; exact h.1, ?_⟩
  rcases h.2 with ⟨h0, _⟩ | ⟨b, cap', cur, h0, h1, h2, h3, h4, h5, h6⟩
  · cases h0
  · cases h0
    refine .inr ⟨r, cap, cur.setIfInBounds i u, rfl, h1, heap_setCell_same w r i cur e u h2, h3, h4, by simp [h5], ?_⟩
    rw [Array.toList_setIfInBounds, List.take_set, h6]
section
variable {bz : Nat} {tau : Nat → Nat} {G : Gd} {w : World} {h : Nat} {s : Fs}
theorem FR.old (H : FR bz tau G w h s) {nb : Nat} (hb : w.heap.size ≤ nb) : tau nb = 0 := by
  cases ht : tau nb with
  | zero => rfl
  | succ n => have := (H.lt nb (by rw [ht]; omega)).2; omega
theorem FR.setd2 (H : FR bz tau G w h s) {w1 : World} (K : Gw w w1) {f r cap nb cap' : Nat} (hf : f < s.d.length) (hr : G.dv = .slice (some ⟨r, 0, none⟩) s.d.length cap) {l : List UInt8} (hl : l.length ≤ 8)
    (hb : w.heap.size ≤ nb) (hnb : nb < w1.heap.size) (h1 : l.length ≤ cap') (h2 : cap' ≤ 9223372036854775807) (hx : ∀ (j : Nat) c, l[j]? = some c → w1.cell? ⟨nb, j, none⟩ = some (.int .u8 (c.toNat : Int))) :
    Fc tau w (w1.setCell ⟨r, f, none⟩ (.slice (some ⟨nb, 0, none⟩) l.length cap')) ∧ ∃ tau' G', FR bz tau' G' (w1.setCell ⟨r, f, none⟩ (.slice (some ⟨nb, 0, none⟩) l.length cap')) h { s with d := s.d.set f l } ∧ G'.ps = G.ps ∧ ∀ k, k < w.heap.size → tau' k ≠ 0 → tau k ≠ 0 := by
  have H1 := H.on K
  have q : ∀ c, c ≠ r → (w1.setCell ⟨r, f, none⟩ (.slice (some ⟨nb, 0, none⟩) l.length cap')).heap[c]? = w1.heap[c]? := fun c hc => set_other (p := ⟨r, f, none⟩) hc
  have tr := H.td r (by rw [hr]; rfl)
  have t0 := H.old hb
  have ne : ∀ c n, tau c = n → n ≠ 3 → c ≠ r := fun c n e hn e2 => hn (by rw [← e, e2, tr])
  have hz : (w1.setCell ⟨r, f, none⟩ (.slice (some ⟨nb, 0, none⟩) l.length cap')).heap.size = w1.heap.size := by simp
  have keep : ∀ c, tau c ≠ 0 → (if c = nb then 5 else tau c) = tau c := fun c hc => if_neg (fun e => hc (by rw [e]; exact t0))
  have kp : ∀ c n, tau c = n + 1 → (if c = nb then 5 else tau c) = n + 1 := fun c n e => (keep c (by rw [e]; omega)).trans e
  have zs := K.size
  refine ⟨⟨K.os, K.output, by rw [hz]; exact zs, fun c hc ht => (q c (ne c 0 ht (by decide))).trans (K.block c hc)⟩, fun c => if c = nb then 5 else tau c, { G with ds := G.ds.set f (.slice (some ⟨nb, 0, none⟩) l.length cap') }, ?_, rfl, fun c hc ht => ?_⟩
  · refine ⟨H1.hd.same (q h (ne h 1 H.th (by decide))), H1.tr.same (fun c hc => ?_), ?_, own_same H1.or_ (fun c hc => q c (ne c 4 (H.tov c hc) (by decide))), fun j c x hc hx => (H1.oc j c x hc hx).same (q c (ne c (6 + j) (H.tp j c hc) (by omega))),
      fun j x m hx' hm => ?_, kp _ 0 H.th, kp _ 1 H.tg, fun c hc => kp c 1 (H.ts c hc), fun c hc => kp c 2 (H.td c hc), fun c hc => kp c 3 (H.tov c hc), fun j c hc => (kp c (5 + j) (by rw [H.tp j c hc]; omega)).trans (by omega), fun c hc => ?_, by rw [hz]; exact Nat.le_trans H.hz zs, ?_⟩
    · rcases hc with rfl | hc
      · exact q _ (ne _ 2 H.tg (by decide))
      · exact q c (ne c 2 (H.ts c hc) (by decide))
    · have := H1.dr
      rw [hr] at this
      rw [hr, List.length_set]
      exact own_set1 this hf
    · rw [List.getElem?_set] at hx' hm
      by_cases e : f = j
      · subst e
        rw [if_pos rfl, if_pos (by rw [H.len.1]; exact hf)] at hx'
        rw [if_pos rfl, if_pos hf] at hm
        cases hx'
        cases hm
        refine ⟨_, cap', rfl, h1, h2, fun j c hj => ⟨nb, 0, rfl, .inr (if_pos rfl), ?_⟩⟩
        rw [Nat.zero_add]
        refine (World.cell?_of_block (a := ⟨nb, j, none⟩) (q nb (fun e => ?_))).trans (hx j c hj)
        rw [e, tr] at t0
        cases t0
      · rw [if_neg e] at hx' hm
        refine (H1.by_ j x m hx' hm).on fun c hc ht => ⟨q c ?_, ?_⟩
        · rcases ht with ht | ht
          · intro e
            have := (H.lt r (by rw [tr]; decide)).1
            omega
          · exact ne c 5 ht (by decide)
        · exact ht.imp id (fun e => kp c 4 e)
    · by_cases e : c = nb
      · subst e; rw [hz]; exact ⟨Nat.le_trans H.hz hb, hnb⟩
      · have := H.lt c (by simpa [e] using hc)
        rw [hz]; exact ⟨this.1, Nat.lt_of_lt_of_le this.2 zs⟩
    · refine ⟨H.ok.fl, H.ok.fds, fun j x hx => by rw [List.length_set]; exact H.ok.os j x hx, fun m hm => ?_⟩
      rcases List.mem_or_eq_of_mem_set hm with hm | rfl
      · exact H.ok.ds m hm
      · exact hl
  · by_cases e : c = nb
    · omega
    · simpa [e] using ht
theorem FR.setd (H : FR bz tau G w h s) {w1 : World} (K : Gw w w1) {f r cap nb cap' : Nat} (hf : f < s.d.length) (hr : G.dv = .slice (some ⟨r, 0, none⟩) s.d.length cap) {l : List UInt8} (hl : l.length ≤ 8)
    (hb : w.heap.size ≤ nb) (hnb : nb < w1.heap.size) (h1 : l.length ≤ cap') (h2 : cap' ≤ 9223372036854775807) (hx : ∀ (j : Nat) c, l[j]? = some c → w1.cell? ⟨nb, j, none⟩ = some (.int .u8 (c.toNat : Int))) :
    FTo bz tau w h { s with d := s.d.set f l } (w1.setCell ⟨r, f, none⟩ (.slice (some ⟨nb, 0, none⟩) l.length cap')) := by
  obtain ⟨c, tau', G', k1, _, k2⟩ := H.setd2 K hf hr hl hb hnb h1 h2 hx
  exact ⟨c, tau', G', k1, k2⟩
theorem FTo.step {tau' : Nat → Nat} {w2 w3 : World} {s3 : Fs} (c : Fc tau w w2) (n : ∀ k, k < w.heap.size → tau' k ≠ 0 → tau k ≠ 0) (H : FTo bz tau' w2 h s3 w3) : FTo bz tau w h s3 w3 := by
  obtain ⟨t3, G3, k1, k2⟩ := H.ex
  have z : ∀ k, k < w.heap.size → tau k = 0 → tau' k = 0 := fun k hk ht => by
    cases e : tau' k with
    | zero => rfl
    | succ m => exact absurd ht (n k hk (by rw [e]; omega))
  exact ⟨⟨H.ch.os.trans c.os, H.ch.output.trans c.output, Nat.le_trans c.size H.ch.size, fun k hk ht => (H.ch.block k (Nat.lt_of_lt_of_le hk c.size) (z k hk ht)).trans (c.block k hk ht)⟩, t3, G3, k1, fun k hk ht => n k hk (k2 k (Nat.lt_of_lt_of_le hk c.size) ht)⟩
end
end Go.Proofs.Ytckoapfmfpmdgaa
