/-
  Parts of the proof, joined: FileYa, FileYb, FileYk, FileYp.
-/
import Derived.Test.YtckoapfmfpmdgaaMp28
import Derived.Deep.RegionLaw
import Derived.Test.YtckoapfmfpmdgaaMp02

namespace Go.Proofs.Ytckoapfmfpmdgaa
open Go.ChangeShapes Go.WideShapes Go.ChangeAt Go.RowKit Go.Joins
set_option linter.unusedVariables false
set_option linter.unusedSimpArgs false

theorem BtN.bta {base : Nat} {w : World} {x : Value} {l : List UInt8} (h : BtN base w x l) : BtA w x l := by
  obtain ⟨A, cap, h1, h2, h3, h4⟩ := h
  exact ⟨A, cap, h1, h2, h3, fun j c hj => by
    obtain ⟨b, off, a, _, d⟩ := h4 j c hj
    exact ⟨b, off, a, d⟩⟩
theorem BtV.bta {bz : Nat} {tau : Nat → Nat} {w : World} {x : Value} {l : List UInt8} (h : BtV bz tau w x l) : BtA w x l := by
  rcases h with ⟨rfl, rfl⟩ | ⟨A, cap, h1, h2, h3, h4⟩
  · exact BtA.nil w
  · exact ⟨A, cap, h1, h2, h3, fun j c hj => by
      obtain ⟨b, off, a, _, d⟩ := h4 j c hj
      exact ⟨b, off, a, d⟩⟩
section
variable {T : FP} {bz : Nat} {K : Nat → Prop} {w : World} {v : Value} {g : Nat} {s s2 : Fs}
theorem yt_open (C : FilesC T) (M : Fp T bz K w v g s s2) (ok : FOk s) (few : Few s) (p : ByteArray) (a0 : p.size ≤ 140737488351232) : Calls Try.prog 33 #[v, .string p] w fun e w' => e = .returned (.int .u16 (openF s p.data.toList).1) ∧ Fp T bz K w' v g (openF s p.data.toList).2 s2 ∧ Sm K w w' := by
  obtain ⟨F, h, k, _⟩ := M.t
  exact (C.open_ p h ok few a0).mono fun _ _ ⟨he, q⟩ => ⟨he, k _ _ q⟩
theorem yt_close (C : FilesC T) (M : Fp T bz K w v g s s2) (ok : FOk s) (few : Few s) (fd : Nat) (a0 : fd ≤ 65535) : Calls Try.prog 42 #[v, .int .u16 (fd : Int)] w fun e w' => e = .returned (.int .u16 (closeF s fd).1) ∧ Fp T bz K w' v g (closeF s fd).2 s2 ∧ Sm K w w' := by
  obtain ⟨F, h, k, _⟩ := M.t
  exact (C.close fd h ok few a0).mono fun _ _ ⟨he, q⟩ => ⟨he, k _ _ q⟩
theorem yt_write (C : FilesC T) (M : Fp T bz K w v g s s2) (ok : FOk s) (few : Few s) (fd : Nat) (y : Value) (lb : List UInt8) (a0 : fd ≤ 65535) (a1 : BtA w y lb) (a2 : lb.length ≤ 4611686018427387904) : Calls Try.prog 37 #[v, .int .u16 (fd : Int), y] w fun e w' => e = .returned (.int .u16 (writeF s fd lb).1) ∧ Fp T bz K w' v g (writeF s fd lb).2 s2 ∧ Sm K w w' := by
  obtain ⟨F, h, k, _⟩ := M.t
  exact (C.write fd y lb h ok few a0 a1 a2).mono fun _ _ ⟨he, q⟩ => ⟨he, k _ _ q⟩
theorem yt_seek (C : FilesC T) (M : Fp T bz K w v g s s2) (ok : FOk s) (few : Few s) (fd a : Nat) (a0 : fd ≤ 65535) (a1 : a ≤ 65535) : Calls Try.prog 36 #[v, .int .u16 (fd : Int), .int .u16 (a : Int)] w fun e w' => e = .returned (.int .u16 (seekF s fd a).1) ∧ Fp T bz K w' v g (seekF s fd a).2 s2 ∧ Sm K w w' := by
  obtain ⟨F, h, k, _⟩ := M.t
  exact (C.seek fd a h ok few a0 a1).mono fun _ _ ⟨he, q⟩ => ⟨he, k _ _ q⟩
theorem yt_trunc (C : FilesC T) (M : Fp T bz K w v g s s2) (ok : FOk s) (few : Few s) (fd n : Nat) (a0 : fd ≤ 65535) (a1 : n ≤ 65535) : Calls Try.prog 41 #[v, .int .u16 (fd : Int), .int .u16 (n : Int)] w fun e w' => e = .returned (.int .u16 (truncF s fd n).1) ∧ Fp T bz K w' v g (truncF s fd n).2 s2 ∧ Sm K w w' := by
  obtain ⟨F, h, k, _⟩ := M.t
  exact (C.trunc fd n h ok few a0 a1).mono fun _ _ ⟨he, q⟩ => ⟨he, k _ _ q⟩
theorem yt_twin (C : FilesC T) (M : Fp T bz K w v g s s2) (ok : FOk s) (few : Few s) (fd : Nat) (a0 : fd ≤ 65535) : Calls Try.prog 34 #[v, .int .u16 (fd : Int)] w fun e w' => e = .returned (.int .u16 (twinF s fd).1) ∧ Fp T bz K w' v g (twinF s fd).2 s2 ∧ Sm K w w' := by
  obtain ⟨F, h, k, _⟩ := M.t
  exact (C.twin fd h ok few a0).mono fun _ _ ⟨he, q⟩ => ⟨he, k _ _ q⟩
theorem yt_rename (C : FilesC T) (M : Fp T bz K w v g s s2) (ok : FOk s) (few : Few s) (p q : ByteArray) (a0 : p.size ≤ 140737488351232) (a1 : q.size ≤ 140737488351232) : Calls Try.prog 43 #[v, .string p, .string q] w fun e w' => e = .returned (.int .u16 (nameF s 34 p.data.toList q.data.toList).1) ∧ Fp T bz K w' v g (nameF s 34 p.data.toList q.data.toList).2 s2 ∧ Sm K w w' := by
  obtain ⟨F, h, k, _⟩ := M.t
  exact (C.rename p q h ok few a0 a1).mono fun _ _ ⟨he, q⟩ => ⟨he, k _ _ q⟩
theorem yt_unlink (C : FilesC T) (M : Fp T bz K w v g s s2) (ok : FOk s) (few : Few s) (p : ByteArray) (a0 : p.size ≤ 140737488351232) : Calls Try.prog 39 #[v, .string p] w fun e w' => e = .returned (.int .u16 (nameF s 33 p.data.toList []).1) ∧ Fp T bz K w' v g (nameF s 33 p.data.toList []).2 s2 ∧ Sm K w w' := by
  obtain ⟨F, h, k, _⟩ := M.t
  exact (C.unlink p h ok few a0).mono fun _ _ ⟨he, q⟩ => ⟨he, k _ _ q⟩
theorem yt_mkdir (C : FilesC T) (M : Fp T bz K w v g s s2) (ok : FOk s) (few : Few s) (p : ByteArray) (a0 : p.size ≤ 140737488351232) : Calls Try.prog 68 #[v, .string p] w fun e w' => e = .returned (.int .u16 (nameF s 35 p.data.toList []).1) ∧ Fp T bz K w' v g (nameF s 35 p.data.toList []).2 s2 ∧ Sm K w w' := by
  obtain ⟨F, h, k, _⟩ := M.t
  exact (C.mkdir p h ok few a0).mono fun _ _ ⟨he, q⟩ => ⟨he, k _ _ q⟩
theorem yt_rmdir (C : FilesC T) (M : Fp T bz K w v g s s2) (ok : FOk s) (few : Few s) (p : ByteArray) (a0 : p.size ≤ 140737488351232) : Calls Try.prog 69 #[v, .string p] w fun e w' => e = .returned (.int .u16 (nameF s 36 p.data.toList []).1) ∧ Fp T bz K w' v g (nameF s 36 p.data.toList []).2 s2 ∧ Sm K w w' := by
  obtain ⟨F, h, k, _⟩ := M.t
  exact (C.rmdir p h ok few a0).mono fun _ _ ⟨he, q⟩ => ⟨he, k _ _ q⟩
theorem yt_list (C : FilesC T) (M : Fp T bz K w v g s s2) (ok : FOk s) (few : Few s) (p : ByteArray) (a0 : p.size ≤ 140737488351232) : Calls Try.prog 70 #[v, .string p] w fun e w' => e = .returned (.int .u16 (nameF s 37 p.data.toList []).1) ∧ Fp T bz K w' v g (nameF s 37 p.data.toList []).2 s2 ∧ Sm K w w' := by
  obtain ⟨F, h, k, _⟩ := M.t
  exact (C.list p h ok few a0).mono fun _ _ ⟨he, q⟩ => ⟨he, k _ _ q⟩
theorem yt_size (C : FilesC T) (M : Fp T bz K w v g s s2) (ok : FOk s) (fd : Nat) (a0 : fd ≤ 65535) : Calls Try.prog 40 #[v, .int .u16 (fd : Int)] w fun e w' => e = .returned (.int .u16 (sizeF s fd)) ∧ Fp T bz K w' v g s s2 ∧ Sm K w w' := by
  obtain ⟨F, h, k, _⟩ := M.t
  exact (C.size fd h ok a0).mono fun _ _ ⟨he, q⟩ => ⟨he, k _ _ q⟩
theorem yt_read (C : FilesC T) (M : Fp T bz K w v g s s2) (ok : FOk s) (fd n : Nat) (a0 : fd ≤ 65535) (a1 : n ≤ 65535) : Calls Try.prog 35 #[v, .int .u16 (fd : Int), .int .u16 (n : Int)] w fun e w' => ∃ x, e = .returned (.tuple #[x, .int .u16 (readF s fd n).1.2]) ∧ Fp T bz (fun j => K j ∨ Bk x j) w' v g (readF s fd n).2 s2 ∧ Sm K w w' ∧ BtA w' x (readF s fd n).1.1 := by
  obtain ⟨F, h, _, k⟩ := M.t
  exact (C.read fd n h ok a0 a1).mono fun _ _ q => k _ _ _ _ q
theorem yt_data (C : FilesC T) (M : Fp T bz K w v g s s2) (ok : FOk s) (p : ByteArray) (a0 : p.size ≤ 140737488351232) : Calls Try.prog 38 #[v, .string p] w fun e w' => ∃ x, e = .returned (.tuple #[x, .int .u16 (bytesF s p.data.toList).2]) ∧ Fp T bz (fun j => K j ∨ Bk x j) w' v g s s2 ∧ Sm K w w' ∧ BtA w' x (bytesF s p.data.toList).1 := by
  obtain ⟨F, h, _, k⟩ := M.t
  exact (C.data p h ok a0).mono fun _ _ q => k _ _ _ _ q
theorem ym_close (C : FilesC T) (M : Fp T bz K w v g s2 s) (fd : Nat) (a0 : fd ≤ 65535) : Calls Try.prog 60 #[.pointer (some ⟨g, 0, none⟩), .int .u16 (fd : Int)] w fun e w' => e = .returned (.int .u16 (closeF s fd).1) ∧ Fp T bz K w' v g s2 (closeF s fd).2 ∧ Sm K w w' := by
  obtain ⟨tau, Q, h, k⟩ := M.m C
  exact (rclose_any h fd a0).mono fun _ _ ⟨he, q⟩ => ⟨he, k _ _ q⟩
theorem ym_twin (C : FilesC T) (M : Fp T bz K w v g s2 s) (fd : Nat) (a0 : fd ≤ 65535) : Calls Try.prog 66 #[.pointer (some ⟨g, 0, none⟩), .int .u16 (fd : Int)] w fun e w' => e = .returned (.int .u16 (twinF s fd).1) ∧ Fp T bz K w' v g s2 (twinF s fd).2 ∧ Sm K w w' := by
  obtain ⟨tau, Q, h, k⟩ := M.m C
  exact (rtwin_any h fd a0).mono fun _ _ ⟨he, q⟩ => ⟨he, k _ _ q⟩
theorem ym_seek (C : FilesC T) (M : Fp T bz K w v g s2 s) (fd a : Nat) (a0 : fd ≤ 65535) (a1 : a ≤ 65535) : Calls Try.prog 63 #[.pointer (some ⟨g, 0, none⟩), .int .u16 (fd : Int), .int .u16 (a : Int)] w fun e w' => e = .returned (.int .u16 (seekF s fd a).1) ∧ Fp T bz K w' v g s2 (seekF s fd a).2 ∧ Sm K w w' := by
  obtain ⟨tau, Q, h, k⟩ := M.m C
  exact (rseek_any h fd a a0 a1).mono fun _ _ ⟨he, q⟩ => ⟨he, k _ _ q⟩
theorem ym_trunc (C : FilesC T) (M : Fp T bz K w v g s2 s) (fd n : Nat) (a0 : fd ≤ 65535) (a1 : n ≤ 65535) : Calls Try.prog 65 #[.pointer (some ⟨g, 0, none⟩), .int .u16 (fd : Int), .int .u16 (n : Int)] w fun e w' => e = .returned (.int .u16 (truncF s fd n).1) ∧ Fp T bz K w' v g s2 (truncF s fd n).2 ∧ Sm K w w' := by
  obtain ⟨tau, Q, h, k⟩ := M.m C
  exact (rtrunc_any h fd n a0 a1).mono fun _ _ ⟨he, q⟩ => ⟨he, k _ _ q⟩
theorem ym_write (C : FilesC T) (M : Fp T bz K w v g s2 s) (fd : Nat) (y : Value) (lb : List UInt8) (a0 : fd ≤ 65535) (a1 : BtA w y lb) : Calls Try.prog 62 #[.pointer (some ⟨g, 0, none⟩), .int .u16 (fd : Int), y] w fun e w' => e = .returned (.int .u16 (writeF s fd lb).1) ∧ Fp T bz K w' v g s2 (writeF s fd lb).2 ∧ Sm K w w' := by
  obtain ⟨tau, Q, h, k⟩ := M.m C
  exact (rwrite_any h fd a0 a1).mono fun _ _ ⟨he, q⟩ => ⟨he, k _ _ q⟩
theorem ym_open (C : FilesC T) (M : Fp T bz K w v g s2 s) (ok : FOk s) (few : Few s) (p : ByteArray) (a0 : p.size ≤ 140737488351232) : Calls Try.prog 59 #[.pointer (some ⟨g, 0, none⟩), .string p] w fun e w' => e = .returned (.int .u16 (openF s p.data.toList).1) ∧ Fp T bz K w' v g s2 (openF s p.data.toList).2 ∧ Sm K w w' := by
  obtain ⟨tau, Q, h, k⟩ := M.m C
  exact (ropen_any h ok p a0 few.nx few.os).mono fun _ _ ⟨he, q⟩ => ⟨he, k _ _ q⟩
theorem ym_name (C : FilesC T) (M : Fp T bz K w v g s2 s) (ok : FOk s) (few : Few s) (op : Int) (p q : ByteArray) (a0 : p.size ≤ 140737488351232) (a1 : q.size ≤ 140737488351232) : Calls Try.prog 67 #[.pointer (some ⟨g, 0, none⟩), .int .i64 op, .string p, .string q] w fun e w' => e = .returned (.int .u16 (nameF s op p.data.toList q.data.toList).1) ∧ Fp T bz K w' v g s2 (nameF s op p.data.toList q.data.toList).2 ∧ Sm K w w' := by
  obtain ⟨tau, Q, h, k⟩ := M.m C
  exact (rname_file h ok op p q a0 a1 few.nx).mono fun _ _ ⟨he, q⟩ => ⟨he, k _ _ q⟩
theorem ym_size (C : FilesC T) (M : Fp T bz K w v g s2 s) (fd : Nat) (a0 : fd ≤ 65535) : Calls Try.prog 64 #[.pointer (some ⟨g, 0, none⟩), .int .u16 (fd : Int)] w fun e w' => e = .returned (.int .u16 (sizeF s fd)) ∧ Fp T bz K w' v g s2 s ∧ Sm K w w' := by
  obtain ⟨tau, Q, h, k⟩ := M.m C
  exact (rsize_any h fd a0).mono fun _ _ ⟨he, q⟩ => ⟨he, M.on C q, M.sm q⟩
theorem ym_read (C : FilesC T) (M : Fp T bz K w v g s2 s) (fd n : Nat) (a0 : fd ≤ 65535) (a1 : n ≤ 65535) : Calls Try.prog 61 #[.pointer (some ⟨g, 0, none⟩), .int .u16 (fd : Int), .int .u16 (n : Int)] w fun e w' => ∃ x, e = .returned (.tuple #[x, .int .u16 (readF s fd n).1.2]) ∧ Fp T bz K w' v g s2 (readF s fd n).2 ∧ Sm K w w' ∧ BtA w' x (readF s fd n).1.1 := by
  obtain ⟨tau, Q, h, k⟩ := M.m C
  exact (rread_any h fd n a0 a1).mono fun _ _ ⟨x, he, hb, q⟩ => ⟨x, he, (k _ _ q).1, (k _ _ q).2, hb.bta⟩
theorem ym_bytes (C : FilesC T) (M : Fp T bz K w v g s2 s) (ok : FOk s) (p : ByteArray) (a0 : p.size ≤ 140737488351232) : Calls Try.prog 71 #[.pointer (some ⟨g, 0, none⟩), .string p] w fun e w' => ∃ x, e = .returned (.tuple #[x, .int .u16 (bytesF s p.data.toList).2]) ∧ Fp T bz K w' v g s2 s ∧ Sm K w w' ∧ BtA w' x (bytesF s p.data.toList).1 := by
  obtain ⟨tau, Q, h, k⟩ := M.m C
  exact (rbytes_file h ok p a0).mono fun _ _ ⟨x, he, hb, q⟩ => ⟨x, he, M.on C q, M.sm q, hb.bta⟩
theorem name_q (n : Int) (h : n ≠ 34) (p q : List UInt8) : nameF s n p q = nameF s n p [] := by
  unfold nameF
  simp [h]
end
/-- Both begin. -/
theorem two_files {T : FP} (C : FilesC T) {W w1 w2 w3 : World} {v : Value} {a : Addr} {s : Fs} {tau : Nat → Nat} {Q : Gd} {h : Nat} (G1 : Gw W w1) (G2 : Gw w1 w2) {F : Nat → Prop} (hT : T F w2 v s) (hF : ∀ k, F k → w1.heap.size ≤ k) (G3 : Gw w2 w3) (R : FR W.heap.size tau Q w3 h s) (ht : ∀ k, k < w2.heap.size → tau k = 0) : Fp T W.heap.size (fun k => k < W.heap.size) w3 v h s s :=
  ⟨fun k hk => hk, F, tau, Q, C.same hT (fun k hk => G3.block k (C.lt hT hk)), R, fun k hk => ht k (C.lt hT hk), fun k hk => ⟨Nat.lt_of_lt_of_le hk ((G1.trans G2).trans G3).size, fun hf => Nat.lt_irrefl _ (Nat.lt_of_lt_of_le (Nat.lt_of_lt_of_le hk G1.size) (hF k hf)), ht k (Nat.lt_of_lt_of_le hk (G1.trans G2).size)⟩⟩
end Go.Proofs.Ytckoapfmfpmdgaa

namespace Go.Proofs.Ytckoapfmfpmdgaa
open Go.ChangeShapes Go.WideShapes Go.ChangeAt Go.RowKit Go.Joins
set_option linter.unusedVariables false
set_option linter.unusedSimpArgs false

abbrev ddC (k : Int) (fd n : Nat) (y : Value) (p q : ByteArray) : Array Value := #[.int .i64 k, .int .u16 (fd : Int), .int .u16 (n : Int), y, .string p, .string q]
theorem dd_cells {K : Nat → Prop} {w w1 w' : World} {k : Int} {fd n : Nat} {y : Value} {p q : ByteArray} (h : w1.heap[w.heap.size]? = some (.cells (ddC k fd n y p q) 75)) (S : Sm (fun k => K k ∨ k = w.heap.size) w1 w') :
    w'.cell? ⟨w.heap.size, 0, none⟩ = some (.int .i64 k) ∧ w'.cell? ⟨w.heap.size, 1, none⟩ = some (.int .u16 (fd : Int)) ∧ w'.cell? ⟨w.heap.size, 2, none⟩ = some (.int .u16 (n : Int)) ∧ w'.cell? ⟨w.heap.size, 3, none⟩ = some y ∧ w'.cell? ⟨w.heap.size, 4, none⟩ = some (.string p) ∧ w'.cell? ⟨w.heap.size, 5, none⟩ = some (.string q) := by
  have hh : Has w' w.heap.size 75 (ddC k fd n y p q) := (S.block _ (.inr rfl)).trans h
  exact ⟨hh.cell 0, hh.cell 1, hh.cell 2, hh.cell 3, hh.cell 4, hh.cell 5⟩
set_option maxRecDepth 100000 in
set_option maxHeartbeats 8000000 in
theorem do_open {T : FP} (C : FilesC T) {bz g : Nat} {K : Nat → Prop} {w : World} {v : Value} {s : Fs} (M : Fp T bz K w v g s s) (ok : FOk s) (few : Few s) (fd n : Nat) (y : Value) (lb : List UInt8) (p q : ByteArray) (hfd : fd ≤ 65535) (hn16 : n ≤ 65535) (hp : p.size ≤ 140737488351232) (hq : q.size ≤ 140737488351232) (hy : BtA w y lb) (hyk : ∀ j, Bk y j → K j) (hlb : lb.length ≤ 4611686018427387904) :
    Calls Try.prog 32 #[v, .pointer (some ⟨g, 0, none⟩), .agg (ddC 27 fd n y p q)] w fun e w' => e = .returned (.bool true) ∧ Fp T bz K w' v g (openF s p.data.toList).2 (openF s p.data.toList).2 ∧ Sm K w w' := by
  have G0 := Gw.alloc w (.cells (ddC 27 fd n y p q) 75)
  have M0 := Lib.hid ((M.box C (.cells (ddC 27 fd n y p q) 75)).on C (Gw.refl _).drew)
  have S0 := Lib.hid (M.sm (G0.trans (Gw.refl _).drew))
  have hw0 : (w.alloc (.cells (ddC 27 fd n y p q) 75)).drew.heap[w.heap.size]? = some (.cells (ddC 27 fd n y p q) 75) := heap_alloc_new w _
  have hcell := fun w' (S : Sm (fun k => K k ∨ k = w.heap.size) (w.alloc (.cells (ddC 27 fd n y p q) 75)).drew w') => dd_cells hw0 S
  have hc0 : Hid _ := Lib.hid (dd_cells (K := K) (w1 := w.alloc (.cells (ddC 27 fd n y p q) 75)) (heap_alloc_new w _) (Sm.refl _ _))
  obtain ⟨c0, c1, c2, c3, c4, c5⟩ := hc0.out
  obtain ⟨d0, d1, d2, d3, d4, d5⟩ := hcell _ (Sm.refl _ _)
  have A1 := yt_open C M0.out ok few p hp
  have B1 := ym_open C M0.out ok few p hp
  obtain ⟨r, hr⟩ : ∃ r, r = openF s p.data.toList := ⟨_, rfl⟩
  rw [← hr] at A1 B1 ⊢
  have HR := Lib.hid hr
  clear hr
  obtain ⟨r1, s'⟩ := r
  have HM := Lib.hid M
  clear hc0 M
  unfold ddC at *
  go_enter Try.func32, Try.ntmps32
  go_upto_region 3 with fail
  go_region_law (first
    | (rw [if_pos (by rfl)]; go_simp; go_at_call 33; with_reducible refine A1.mono ?_; rintro e wa ⟨rfl, HA, SX⟩; obtain ⟨k0, k1, k2, k3, k4, k5⟩ := hcell _ SX; have B2 := ym_open C HA ok few p hp; rw [← HR.out] at B2)
    | (rw [if_pos (by rfl)]; go_simp; go_at_call 59; with_reducible refine B1.mono ?_; rintro e wb ⟨rfl, HB, SX⟩; obtain ⟨k0, k1, k2, k3, k4, k5⟩ := hcell _ SX; have A2 := yt_open C HB ok few p hp; rw [← HR.out] at A2)
    | (rw [if_pos (by rfl)]; go_simp; go_at_call 59; with_reducible refine B2.mono ?_; rintro e wc ⟨rfl, HE, SE⟩)
    | (rw [if_pos (by rfl)]; go_simp; go_at_call 33; with_reducible refine A2.mono ?_; rintro e wc ⟨rfl, HE, SE⟩))
  all_goals (
    go_wp2
    go_ret
    exact ⟨by first | rfl | (simp; done) | go_simp, HE.less (fun j hj => .inl hj) HM.out.kb, S0.out.trans ((SX.trans SE).less (fun j hj => .inl hj))⟩)
set_option maxRecDepth 100000 in
set_option maxHeartbeats 8000000 in
theorem do_close {T : FP} (C : FilesC T) {bz g : Nat} {K : Nat → Prop} {w : World} {v : Value} {s : Fs} (M : Fp T bz K w v g s s) (ok : FOk s) (few : Few s) (fd n : Nat) (y : Value) (lb : List UInt8) (p q : ByteArray) (hfd : fd ≤ 65535) (hn16 : n ≤ 65535) (hp : p.size ≤ 140737488351232) (hq : q.size ≤ 140737488351232) (hy : BtA w y lb) (hyk : ∀ j, Bk y j → K j) (hlb : lb.length ≤ 4611686018427387904) :
    Calls Try.prog 32 #[v, .pointer (some ⟨g, 0, none⟩), .agg (ddC 28 fd n y p q)] w fun e w' => e = .returned (.bool true) ∧ Fp T bz K w' v g (closeF s fd).2 (closeF s fd).2 ∧ Sm K w w' := by
  have G0 := Gw.alloc w (.cells (ddC 28 fd n y p q) 75)
  have M0 := Lib.hid ((M.box C (.cells (ddC 28 fd n y p q) 75)).on C (Gw.refl _).drew)
  have S0 := Lib.hid (M.sm (G0.trans (Gw.refl _).drew))
  have hw0 : (w.alloc (.cells (ddC 28 fd n y p q) 75)).drew.heap[w.heap.size]? = some (.cells (ddC 28 fd n y p q) 75) := heap_alloc_new w _
  have hcell := fun w' (S : Sm (fun k => K k ∨ k = w.heap.size) (w.alloc (.cells (ddC 28 fd n y p q) 75)).drew w') => dd_cells hw0 S
  have hc0 : Hid _ := Lib.hid (dd_cells (K := K) (w1 := w.alloc (.cells (ddC 28 fd n y p q) 75)) (heap_alloc_new w _) (Sm.refl _ _))
  obtain ⟨c0, c1, c2, c3, c4, c5⟩ := hc0.out
  obtain ⟨d0, d1, d2, d3, d4, d5⟩ := hcell _ (Sm.refl _ _)
  have A1 := yt_close C M0.out ok few fd hfd
  have B1 := ym_close C M0.out fd hfd
  obtain ⟨r, hr⟩ : ∃ r, r = closeF s fd := ⟨_, rfl⟩
  rw [← hr] at A1 B1 ⊢
  have HR := Lib.hid hr
  clear hr
  obtain ⟨r1, s'⟩ := r
  have HM := Lib.hid M
  clear hc0 M
  unfold ddC at *
  go_enter Try.func32, Try.ntmps32
  go_upto_region 5 with fail
  go_region_law (first
    | (rw [if_pos (by rfl)]; go_simp; go_at_call 42; with_reducible refine A1.mono ?_; rintro e wa ⟨rfl, HA, SX⟩; obtain ⟨k0, k1, k2, k3, k4, k5⟩ := hcell _ SX; have B2 := ym_close C HA fd hfd; rw [← HR.out] at B2)
    | (rw [if_pos (by rfl)]; go_simp; go_at_call 60; with_reducible refine B1.mono ?_; rintro e wb ⟨rfl, HB, SX⟩; obtain ⟨k0, k1, k2, k3, k4, k5⟩ := hcell _ SX; have A2 := yt_close C HB ok few fd hfd; rw [← HR.out] at A2)
    | (rw [if_pos (by rfl)]; go_simp; go_at_call 60; with_reducible refine B2.mono ?_; rintro e wc ⟨rfl, HE, SE⟩)
    | (rw [if_pos (by rfl)]; go_simp; go_at_call 42; with_reducible refine A2.mono ?_; rintro e wc ⟨rfl, HE, SE⟩))
  all_goals (
    go_wp2
    go_ret
    exact ⟨by first | rfl | (simp; done) | go_simp, HE.less (fun j hj => .inl hj) HM.out.kb, S0.out.trans ((SX.trans SE).less (fun j hj => .inl hj))⟩)
end Go.Proofs.Ytckoapfmfpmdgaa

namespace Go.Proofs.Ytckoapfmfpmdgaa
set_option linter.unusedVariables false
set_option linter.unusedSimpArgs false

/-- One call more. -/
structure Bd (s s' : Fs) : Prop where
  nx : s'.t.nx ≤ s.t.nx + 1
  os : s'.o.length ≤ s.o.length + 1
theorem bd_same (s : Fs) : Bd s s := ⟨by omega, by omega⟩
theorem fdrop_nx (s : St) (p : List UInt8) (d : Bool) : (dropT s p d).2.nx = s.nx := by unfold dropT; split <;> (try split) <;> (try split) <;> (try split) <;> rfl
theorem fmove_nx (s : St) (a b : List UInt8) : (moveT s a b).2.nx = s.nx := by
  unfold moveT
  split
  · split
    · rfl
    · split
      · split
        · split
          · rfl
          · cases look s.l b with
            | none => rfl
            | some i => simp only; split <;> rfl
        · rfl
      · rfl
  · rfl
theorem fmake_nx (s : St) (p : List UInt8) (d : Bool) : (makeT s p d).2.nx ≤ s.nx + 1 := by
  unfold makeT
  split
  · split
    · cases look s.l p with
      | some i => show s.nx ≤ _; omega
      | none => simp only; split
                · show s.nx ≤ _; omega
                · split
                  · show s.nx ≤ _; omega
                  · show s.nx + 1 ≤ _; omega
    · show s.nx ≤ _; omega
  · show s.nx ≤ _; omega
theorem bd_close (s : Fs) (fd : Nat) : Bd s (closeF s fd).2 := by unfold closeF; split <;> exact ⟨by simp; omega, by simp⟩
theorem bd_twin (s : Fs) (fd : Nat) : Bd s (twinF s fd).2 := by unfold twinF; split <;> (try split) <;> exact ⟨by simp; omega, by simp⟩
theorem bd_seek (s : Fs) (fd a : Nat) : Bd s (seekF s fd a).2 := by unfold seekF; split <;> (try split) <;> exact ⟨by simp; omega, by simp⟩
theorem bd_trunc (s : Fs) (fd a : Nat) : Bd s (truncF s fd a).2 := by unfold truncF; split <;> (try split) <;> exact ⟨by simp; omega, by simp⟩
theorem bd_read (s : Fs) (fd a : Nat) : Bd s (readF s fd a).2 := by unfold readF; split <;> (try split) <;> exact ⟨by simp; omega, by simp⟩
theorem bd_write (s : Fs) (fd : Nat) (b : List UInt8) : Bd s (writeF s fd b).2 := by unfold writeF; split <;> (try split) <;> (try split) <;> exact ⟨by simp; omega, by simp⟩
theorem bd_open (s : Fs) (p : List UInt8) : Bd s (openF s p).2 := by
  have := fmake_nx s.t p false
  unfold openF
  split
  · split
    · exact bd_same s
    · split
      · exact bd_same s
      · split
        · exact bd_same s
        · split
          · exact ⟨by show s.t.nx ≤ _; omega, by simp⟩
          · split
            · exact ⟨this, by simp⟩
            · exact ⟨this, by simp⟩
  · exact bd_same s
theorem bd_name (s : Fs) (n : Int) (p q : List UInt8) : Bd s (nameF s n p q).2 := by
  have h1 := fmake_nx s.t p true
  have h2 := fdrop_nx s.t p true
  have h3 := fdrop_nx s.t p false
  have h4 := fmove_nx s.t p q
  unfold nameF
  split
  · exact ⟨by show (dropT s.t p false).2.nx ≤ _; omega, by simp⟩
  · split
    · exact ⟨by show (moveT s.t p q).2.nx ≤ _; omega, by simp⟩
    · split
      · exact ⟨h1, by simp⟩
      · split
        · exact ⟨by show (dropT s.t p true).2.nx ≤ _; omega, by simp⟩
        · split
          · exact bd_same s
          · exact bd_same s
end Go.Proofs.Ytckoapfmfpmdgaa

namespace Go.Proofs.Ytckoapfmfpmdgaa
open Go.ChangeShapes Go.WideShapes Go.ChangeAt Go.RowKit Go.Joins
set_option linter.unusedVariables false
set_option linter.unusedSimpArgs false

/-- What do is to answer, whatever the call. -/
abbrev DoF (T : FP) : Prop := ∀ {bz g : Nat} {K : Nat → Prop} {w : World} {v : Value} {s : Fs}, Fp T bz K w v g s s → FOk s → Few s → ∀ (k : Int) (fd n : Nat) (y : Value) (lb : List UInt8) (p q : ByteArray), fd ≤ 65535 → n ≤ 65535 → p.size ≤ 140737488351232 → q.size ≤ 140737488351232 → BtA w y lb → (∀ j, Bk y j → K j) → lb.length ≤ 4611686018427387904 →
    Calls Try.prog 32 #[v, .pointer (some ⟨g, 0, none⟩), .agg (ddC k fd n y p q)] w fun e w' => e = .returned (.bool true) ∧ ∃ s', Fp T bz K w' v g s' s' ∧ FOk s' ∧ Bd s s' ∧ Sm K w w'
structure Pl (T : FP) (W w : World) (v : Value) (g : Nat) (s : Fs) (m : Nat) : Prop where
  gw : Gw W w
  fp : Fp T W.heap.size (fun k => k < W.heap.size) w v g s s
  ok : FOk s
  nx : s.t.nx ≤ 8 + (m : Int)
  os : s.o.length ≤ m
section
variable {T : FP} {W w : World} {v : Value} {g m : Nat} {s : Fs}
theorem Pl.up (P : Pl T W w v g s m) {m' : Nat} (h : m ≤ m') : Pl T W w v g s m' := ⟨P.gw, P.fp, P.ok, by have := P.nx; omega, Nat.le_trans P.os h⟩
theorem Pl.next (D : DoF T) (P : Pl T W w v g s m) (hm : m ≤ 900) (k : Int) (fd n : Nat) (y : Value) (lb : List UInt8) (p q : ByteArray) (h1 : fd ≤ 65535) (h2 : n ≤ 65535) (h3 : p.size ≤ 140737488351232) (h4 : q.size ≤ 140737488351232) (h5 : BtA W y lb) (h6 : ∀ j, Bk y j → j < W.heap.size) (h7 : lb.length ≤ 4611686018427387904) :
    Calls Try.prog 32 #[v, .pointer (some ⟨g, 0, none⟩), .agg (ddC k fd n y p q)] w fun e w' => e = .returned (.bool true) ∧ ∃ s', Pl T W w' v g s' (m + 1) :=
  (D P.fp P.ok ⟨by have := P.nx; omega, by have := P.os; omega⟩ k fd n y lb p q h1 h2 h3 h4 (h5.on P.gw) h6 h7).mono fun _ _ ⟨a, s', b, c, d, e⟩ => ⟨a, s', gw_sm P.gw e, b, c, by have := d.nx; have := P.nx; omega, by have := d.os; have := P.os; omega⟩
theorem Pl.zero (D : DoF T) (P : Pl T W w v g s m) (hm : m ≤ 900) (p : ByteArray) (h3 : p.size ≤ 140737488351232) :
    Calls Try.prog 32 #[v, .pointer (some ⟨g, 0, none⟩), .agg #[.int .i64 0, .int .u16 0, .int .u16 0, .slice none 0 0, .string p, .string ⟨#[]⟩]] w fun e w' => e = .returned (.bool true) ∧ ∃ s', Pl T W w' v g s' (m + 1) :=
  P.next D hm 0 0 0 (.slice none 0 0) [] p ⟨#[]⟩ (by decide) (by decide) h3 (by decide) (BtA.nil W) (fun j ⟨_, _, _, e⟩ => by cases e) (by decide)
end
theorem BtZ.bk {W : World} {y : Value} {l : List UInt8} (h : BtZ W y l) : ∀ j, Bk y j → j < W.heap.size := by
  obtain ⟨⟨A, cap, rfl, h2, h3, h4⟩, _⟩ := h
  rintro j ⟨off, n, c, e⟩
  injection e with e1 e2 e3
  obtain ⟨b, o, f1, f2⟩ := h4 0 _ (List.getElem?_eq_getElem (by omega))
  rw [e1] at f1
  cases f1
  exact lt_cell f2
theorem BtZ.at {W : World} {y : Value} {l : List UInt8} (h : BtZ W y l) : BtAt W.heap.size (fun _ => 0) W y l := by
  obtain ⟨⟨A, cap, h1, h2, h3, h4⟩, _⟩ := h
  refine ⟨A, cap, h1, h2, h3, fun j c hj => ?_⟩
  obtain ⟨b, o, f1, f2⟩ := h4 j c hj
  exact ⟨b, o, f1, .inl (lt_cell f2), f2⟩
theorem newF_num {es : List (List UInt8 × Bool)} {data : List (List UInt8)} {k : Int} (h : newF es data = .inl k) : k ≠ 0 := by
  unfold newF at h
  cases ht : newT es with
  | none => rw [ht] at h; cases h; decide
  | some t =>
    rw [ht] at h
    simp only at h
    cases hf : fillTo es data es.length with
    | none => rw [hf] at h; cases h; decide
    | some x =>
      obtain ⟨a, q⟩ := x
      rw [hf] at h
      simp only at h
      split at h
      · cases h
      · cases h; decide
theorem DatAt.on' {bz : Nat} {w w' : World} {v : Value} {d : List (List UInt8)} (h : DatAt bz w v d) (G : Gw w w') : DatAt bz w' v d := by
  obtain ⟨A, cap, h1, h2⟩ := h
  refine ⟨A, cap, h1, fun k l hk => ?_⟩
  obtain ⟨gd, off, x, a, b, c⟩ := h2 k l hk
  exact ⟨gd, off, x, a, G.cell b, c.gw G⟩
set_option maxRecDepth 100000 in
set_option maxHeartbeats 8000000 in
theorem fplay_walk {T : FP} (C : FilesC T) (D : DoF T) {W : World} {x u y : Value} {es : List (List UInt8 × Bool)} {ds : List Fdd} (hx : EntAt W x es) (hes : es.length ≤ 9223372036854775807) (hu : DatsN W u) (hy : FddAt W y ds) :
    Calls Try.prog 8 #[x, u, y] W fun e W' => e = .returned (.bool true) ∧ Gw W W' := by
  have hn : ∀ b w, (Op.unary .not (.bool b)).run Try.prog w = .ok (.bool (!b)) w := fun _ _ => rfl
  obtain ⟨A2, dt, c2, rfl, u1, u2, hU⟩ := hu
  have hD : DatAt W.heap.size W (.slice A2 dt.length c2) dt := ⟨A2, c2, rfl, fun k l hk => by
    obtain ⟨g, off, y, a, _, b, c⟩ := hU k l hk
    exact ⟨g, off, y, a, b, c.at⟩⟩
  have AW := awake_files C W
  have SM := fun w (G : Gw W w) => fsmall_any (dt := dt) (ds := ds) (hx.on G) hes A2 c2 rfl (by omega) (fun i l hl => by
    obtain ⟨g, off, y, a, _, b, c⟩ := hU i l hl
    exact ⟨g, off, y, a, G.cell b, c.1.on G⟩) (show FddAt w y ds from by
    obtain ⟨B, cb, h1, h2, h3, h4⟩ := hy
    refine ⟨B, cb, h1, h2, h3, fun i z hz => ?_⟩
    obtain ⟨g, off, y', a, b, c0, c1, c2, c3, c4, c5, c6, c7, c8⟩ := h4 i z hz
    exact ⟨g, off, y', a, Nat.lt_of_lt_of_le b G.size, G.cell c0, G.cell c1, G.cell c2, G.cell c3, ⟨c4.1.on G, c4.2⟩, G.cell c5, G.cell c6, c7, c8⟩)
  have NP := fun w (G : Gw W w) (h : Fwf es dt ds) => C.new (hx.on G) ((hD.on' G).datn (fun _ _ e => by cases e; exact u1)) (fun e he => by have := h.ee e he; omega) (by have := h.en; omega) (by have := h.da; omega)
  have NM := fun w (G : Gw W w) (h : Fwf es dt ds) => rnewf_any (bz := W.heap.size) (hx.on G) (hD.on' G) G.size (fun e he => by have := h.ee e he; omega) (by have := h.en; omega) (by have := h.da; omega)
  obtain ⟨A1, c1, rfl, hE⟩ := hx
  obtain ⟨B, cb, rfl, y1, y2, hY⟩ := hy
  have HE := Lib.hid hE
  have HY := Lib.hid hY
  clear hE hY hU hD y1 y2 u1 u2
  go_enter Try.func8, Try.ntmps8
  go_upto_region 3 with (go_at_call 28; with_reducible refine AW.mono ?_; rintro e w1 ⟨rfl, G1⟩)
  have G1 := Lib.hid G1
  go_upto_if 19 with (go_at_call 29; with_reducible refine (SM _ G1.out).mono ?_; rintro e wx ⟨b1, rfl, rfl, H1⟩; cases b1)
  · go_wp2
    go_ret
    exact ⟨rfl, G1.out⟩
  have H2 := H1 trivial
  have H3 := Lib.hid H2
  clear H1 SM
  have N1 := NP _ G1.out H2
  have N2 := fun w (G : Gw wx w) => NM w (G1.out.trans G) H2
  clear NP NM H2
  unfold NewFP at N1
  unfold NfP at N2
  cases hs : newF es dt with
  | inl k =>
    rw [hs] at N1 N2
    have hk : k ≠ 0 := newF_num hs
    clear hs
    have hk1 : (k == 0) = false := beq_false_of_ne hk
    have hk2 : (k != 0) = true := bne_iff_ne.2 hk
    go_wp2_with (first
      | (go_at_call 30; with_reducible refine N1.mono ?_; rintro e w2 ⟨rfl, G2⟩)
      | (go_at_call 31; with_reducible refine (N2 _ G2).mono ?_; rintro e w3 ⟨rfl, G3⟩))
    go_ret
    exact ⟨rfl, G1.out.trans (G2.trans G3)⟩
  | inr s =>
    rw [hs] at N1 N2
    obtain ⟨k1, k2, k3, k4⟩ := newF_ok1 hs
    clear hs
    go_upto_region 12 with (first
      | (go_at_call 30; with_reducible refine N1.mono ?_; rintro e w2 ⟨a, F, rfl, hT, G2, hF⟩)
      | (go_at_call 31; with_reducible refine (N2 _ G2).mono ?_; rintro e w3 ⟨g, tau, Q, rfl, G3, hR, ht⟩; have H0 := two_files (a := a) C G1.out G2 hT hF G3 hR ht))
    have HP : Hid (Pl T W w3 (.pointer (some a)) g s 0) := ⟨G1.out.trans (G2.trans G3), H0, k1, by omega, by rw [k4]; exact Nat.le_refl _⟩
    clear H0 hR hT hF ht k1 k2 k3 k4 N1 N2 G2 G3
    go_loopw [11] (fun i wr => ∃ (k : Nat) (s : Fs), k ≤ ds.length ∧ i = .int .i64 k ∧ Hid (Pl T W wr (.pointer (some a)) g s (2 * k))) (fun i _ => ds.length - (intOf i).toNat)
    case atStart => exact ⟨0, s, by omega, rfl, HP⟩
    case round =>
      clear HP
      obtain ⟨k, s, hk, rfl, HP⟩ := hrel
      have hk9 : Hid (2 * k ≤ 302 ∧ ds.length ≤ 151) := ⟨by have := H3.out.de; omega, H3.out.de⟩
      by_cases hlt : k < ds.length
      · obtain ⟨d, hd⟩ : ∃ d, ds[k]? = some d := ⟨_, List.getElem?_eq_getElem hlt⟩
        obtain ⟨gd, off, yv, rfl, _, d0, d1, d2, d3, hb, d4, d5, f1, f2⟩ := HY.out k d hd
        obtain ⟨q1, q2, q3⟩ := H3.out.dd d (List.mem_of_getElem? hd)
        have DO := HP.out.next D (by have := hk9.out; omega) d.k d.fd d.n yv d.b d.p d.q f1 f2 (by omega) (by omega) hb.1 hb.bk (by omega)
        have GW := Lib.hid HP.out.gw
        have d0 := GW.out.cell d0
        have d1 := GW.out.cell d1
        have d2 := GW.out.cell d2
        have d3 := GW.out.cell d3
        have d4 := GW.out.cell d4
        have d5 := GW.out.cell d5
        have GP := fun w' (G : Gw W w') => show w'.cell? ⟨gd, off + k * 6 + 4, none⟩ = some (.string d.p) from G.cell (by have := (HY.out k d hd); obtain ⟨_, _, _, e, _, _, _, _, _, _, e4, _⟩ := this; cases e; exact e4)
        have HB := Lib.hid hb
        have HQ2 := Lib.hid q2
        clear hd q1 q2 q3 f1 f2 hb
        obtain ⟨dk, dfd, dn, db, p, q⟩ := d
        simp only [ddC] at DO
        simp only at d0 d1 d2 d3 d4 d5 GP HQ2
        have hdl : ds.length ≤ 151 := hk9.out.2
        by_cases hp : p.toList.isEmpty = true
        · have hp1 : p.toList = [] := List.isEmpty_iff.1 hp
          go_wp2_with (go_at_call 32; with_reducible refine DO.mono ?_; rintro e wa ⟨rfl, s1, HA⟩; have g4 := GP _ HA.gw; have HA := Lib.hid HA)
          go_roundw
          case rel => exact ⟨k + 1, s1, by omega, by go_num, HA.out.up (by omega)⟩
          case measure => simp [intOf]; omega
        · have hp1 : p.toList.isEmpty = false := by cases h : p.toList.isEmpty with | true => exact absurd h hp | false => rfl
          clear hp
          go_wp2_with (go_at_call 32; first
            | (with_reducible refine DO.mono ?_; clear DO; rintro e wa ⟨rfl, s1, HA⟩; have g4 := GP _ HA.gw; have DZ := HA.zero D (by have := hk9.out; omega) p (by have := HQ2.out; omega); have HA := Lib.hid HA)
            | (with_reducible refine DZ.mono ?_; clear DZ; rintro e wb ⟨rfl, s2, HB2⟩; have HB2 := Lib.hid HB2))
          go_roundw
          case rel => exact ⟨k + 1, s2, by omega, by go_num, HB2.out.up (by omega)⟩
          case measure => simp [intOf]; omega
      · have hkN : k = ds.length := by omega
        have hlt' : decide ((k : Int) < (ds.length : Int)) = false := decide_eq_false (by omega)
        have HP0 : Hid (Pl T W wr (.pointer (some a)) g s 302) := HP.out.up hk9.out.1
        clear HP hkN
        go_upto_region 17 with fail
        go_loopw [12] (fun i wx => ∃ (q : Nat) (s : Fs), q ≤ es.length ∧ i = .int .i64 q ∧ Hid (Pl T W wx (.pointer (some a)) g s (302 + q))) (fun i _ => es.length - (intOf i).toNat)
        case atStart => exact ⟨0, s, by omega, rfl, HP0⟩
        case round =>
          clear HP0
          obtain ⟨q, s2, hq, rfl, HP⟩ := hrel
          have hq9 : Hid (q ≤ 101) := by show _ ≤ _; have := H3.out.en; omega
          by_cases hql : q < es.length
          · obtain ⟨e, he⟩ : ∃ e, es[q]? = some e := ⟨_, List.getElem?_eq_getElem hql⟩
            obtain ⟨ge, off, rfl, d0, _⟩ := HE.out q e he
            have q1 := H3.out.ee e (List.mem_of_getElem? he)
            have d0 := HP.out.gw.cell d0
            obtain ⟨sp, hsp⟩ : ∃ sp, sp = bs e.1 := ⟨_, rfl⟩
            have DZ := HP.out.zero D (by have := hq9.out; omega) sp (by rw [hsp, bs_size]; omega)
            rw [← hsp] at d0
            clear he q1 hsp
            go_wp2_with (go_at_call 32; with_reducible refine DZ.mono ?_; clear DZ; rintro e wb ⟨rfl, s3, HB2⟩; have HB2 := Lib.hid HB2)
            go_roundw
            case rel => exact ⟨q + 1, s3, by omega, by go_num, HB2.out.up (by omega)⟩
            case measure => simp [intOf]; omega
          · have hql' : decide ((q : Int) < (es.length : Int)) = false := decide_eq_false (by omega)
            go_wp2
            go_ret
            exact ⟨rfl, HP.out.gw⟩
end Go.Proofs.Ytckoapfmfpmdgaa
