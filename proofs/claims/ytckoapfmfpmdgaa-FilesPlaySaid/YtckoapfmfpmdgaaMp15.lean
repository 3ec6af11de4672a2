/-
  Parts of the proof, joined: FileT, FzC, FzD.
-/
import Derived.Test.YtckoapfmfpmdgaaMp02
import Derived.Test.YtckoapfmfpmdgaaMp14
import Derived.Laws.BytesArg
import Derived.Shelf.Bytes.SlSmallAll
import Derived.Test.YtckoapfmfpmdgaaMp03
import Derived.Laws.AppendOwnNone

namespace Go.Proofs.Ytckoapfmfpmdgaa
open Go.ChangeShapes Go.WideShapes Go.ChangeAt Go.RowKit Go.Joins
set_option linter.unusedVariables false
set_option linter.unusedSimpArgs false

abbrev FP := (Nat → Prop) → World → Value → Fs → Prop
/-- What was done to a file system has been done to it alone. -/
structure KpF (T : FP) (F : Nat → Prop) (v : Value) (s' : Fs) (W W' : World) : Prop where
  ch : ChF F W W'
  ex : ∃ F', T F' W' v s' ∧ ∀ k, F' k → F k ∨ W.heap.size ≤ k
/-- Bytes that are handed in, by number. -/
def DatN (w : World) (v : Value) (data : List (List UInt8)) : Prop := ∃ A cap, v = .slice A data.length cap ∧ data.length ≤ cap ∧
  ∀ (k : Nat) l, data[k]? = some l → ∃ gd off x, A = some ⟨gd, off, none⟩ ∧ w.cell? ⟨gd, off + k, none⟩ = some x ∧ BtA w x l
theorem DatN.nil (w : World) : DatN w (.slice none 0 0) [] := ⟨none, 0, rfl, Nat.le_refl _, fun k l h => (by simp at h)⟩
theorem BtA.nil (w : World) : BtA w (.slice none 0 0) [] := ⟨none, 0, rfl, Nat.le_refl _, Nat.zero_le _, fun j c h => (by simp at h)⟩
theorem DatAt.datn {bz : Nat} {w : World} {v : Value} {data : List (List UInt8)} (h : DatAt bz w v data) (hc : ∀ A cap, v = .slice A data.length cap → data.length ≤ cap) : DatN w v data := by
  obtain ⟨A, cap, h1, h2⟩ := h
  refine ⟨A, cap, h1, hc A cap h1, fun k l hk => ?_⟩
  obtain ⟨gd, off, x, a, b, A', c', e1, e2, e3, e4⟩ := h2 k l hk
  refine ⟨gd, off, x, a, b, A', c', e1, e2, e3, fun j c hj => ?_⟩
  obtain ⟨b', o', f1, _, f2⟩ := e4 j c hj
  exact ⟨b', o', f1, f2⟩
/-- What New answers. -/
def NewFP (T : FP) (W : World) (es : List (List UInt8 × Bool)) (data : List (List UInt8)) (e : Ending) (W' : World) : Prop := match newF es data with
  | .inl k => e = .returned (.tuple #[.pointer none, .int .i64 k]) ∧ Gw W W'
  | .inr s => ∃ a F, e = .returned (.tuple #[.pointer (some a), .int .i64 0]) ∧ T F W' (.pointer (some a)) s ∧ Gw W W' ∧ ∀ k, F k → W.heap.size ≤ k
/-- Bytes that are answered: in new blocks, that are not its own. -/
def BtF (F : Nat → Prop) (base : Nat) (w : World) (x : Value) (l : List UInt8) : Prop := ∃ A cap, x = .slice A l.length cap ∧ l.length ≤ cap ∧ cap ≤ 9223372036854775807 ∧
  ∀ (j : Nat) c, l[j]? = some c → ∃ b off, A = some ⟨b, off, none⟩ ∧ base ≤ b ∧ ¬ F b ∧ w.cell? ⟨b, off + j, none⟩ = some (.int .u8 (c.toNat : Int))
/-- Bytes, a number, and what was done. -/
def BnP (T : FP) (F : Nat → Prop) (v : Value) (W : World) (a : List UInt8 × Int) (s' : Fs) (e : Ending) (W' : World) : Prop :=
  ∃ x F', e = .returned (.tuple #[x, .int .u16 a.2]) ∧ ChF F W W' ∧ T F' W' v s' ∧ (∀ k, F' k → F k ∨ W.heap.size ≤ k) ∧ BtF F' W.heap.size W' x a.1
/-- So far there are but so many. -/
structure Few (s : Fs) : Prop where
  nx : s.t.nx ≤ 1000000
  os : s.o.length ≤ 1000000
structure FilesC (T : FP) : Prop where
  lt : ∀ {F W v s k}, T F W v s → F k → k < W.heap.size
  same : ∀ {F W W' v s}, T F W v s → (∀ k, F k → W'.heap[k]? = W.heap[k]?) → T F W' v s
  new : ∀ {W x y es data}, EntAt W x es → DatN W y data → (∀ e ∈ es, e.1.length ≤ 140737488351232) → es.length ≤ 4611686018427387904 → data.length ≤ 4611686018427387904 → Calls Try.prog 30 #[x, y] W fun e W' => NewFP T W es data e W'
  open_ : ∀ {F W v s} (p : ByteArray), T F W v s → FOk s → Few s → p.size ≤ 140737488351232 → Calls Try.prog 33 #[v, .string p] W fun e W' => e = .returned (.int .u16 (openF s p.data.toList).1) ∧ KpF T F v (openF s p.data.toList).2 W W'
  close : ∀ {F W v s} (fd : Nat), T F W v s → FOk s → Few s → fd ≤ 65535 → Calls Try.prog 42 #[v, .int .u16 (fd : Int)] W fun e W' => e = .returned (.int .u16 (closeF s fd).1) ∧ KpF T F v (closeF s fd).2 W W'
  write : ∀ {F W v s} (fd : Nat) (y : Value) (lb : List UInt8), T F W v s → FOk s → Few s → fd ≤ 65535 → BtA W y lb → lb.length ≤ 4611686018427387904 → Calls Try.prog 37 #[v, .int .u16 (fd : Int), y] W fun e W' => e = .returned (.int .u16 (writeF s fd lb).1) ∧ KpF T F v (writeF s fd lb).2 W W'
  seek : ∀ {F W v s} (fd a : Nat), T F W v s → FOk s → Few s → fd ≤ 65535 → a ≤ 65535 → Calls Try.prog 36 #[v, .int .u16 (fd : Int), .int .u16 (a : Int)] W fun e W' => e = .returned (.int .u16 (seekF s fd a).1) ∧ KpF T F v (seekF s fd a).2 W W'
  trunc : ∀ {F W v s} (fd n : Nat), T F W v s → FOk s → Few s → fd ≤ 65535 → n ≤ 65535 → Calls Try.prog 41 #[v, .int .u16 (fd : Int), .int .u16 (n : Int)] W fun e W' => e = .returned (.int .u16 (truncF s fd n).1) ∧ KpF T F v (truncF s fd n).2 W W'
  twin : ∀ {F W v s} (fd : Nat), T F W v s → FOk s → Few s → fd ≤ 65535 → Calls Try.prog 34 #[v, .int .u16 (fd : Int)] W fun e W' => e = .returned (.int .u16 (twinF s fd).1) ∧ KpF T F v (twinF s fd).2 W W'
  unlink : ∀ {F W v s} (p : ByteArray), T F W v s → FOk s → Few s → p.size ≤ 140737488351232 → Calls Try.prog 39 #[v, .string p] W fun e W' => e = .returned (.int .u16 (nameF s 33 p.data.toList []).1) ∧ KpF T F v (nameF s 33 p.data.toList []).2 W W'
  rename : ∀ {F W v s} (p q : ByteArray), T F W v s → FOk s → Few s → p.size ≤ 140737488351232 → q.size ≤ 140737488351232 → Calls Try.prog 43 #[v, .string p, .string q] W fun e W' => e = .returned (.int .u16 (nameF s 34 p.data.toList q.data.toList).1) ∧ KpF T F v (nameF s 34 p.data.toList q.data.toList).2 W W'
  mkdir : ∀ {F W v s} (p : ByteArray), T F W v s → FOk s → Few s → p.size ≤ 140737488351232 → Calls Try.prog 68 #[v, .string p] W fun e W' => e = .returned (.int .u16 (nameF s 35 p.data.toList []).1) ∧ KpF T F v (nameF s 35 p.data.toList []).2 W W'
  rmdir : ∀ {F W v s} (p : ByteArray), T F W v s → FOk s → Few s → p.size ≤ 140737488351232 → Calls Try.prog 69 #[v, .string p] W fun e W' => e = .returned (.int .u16 (nameF s 36 p.data.toList []).1) ∧ KpF T F v (nameF s 36 p.data.toList []).2 W W'
  list : ∀ {F W v s} (p : ByteArray), T F W v s → FOk s → Few s → p.size ≤ 140737488351232 → Calls Try.prog 70 #[v, .string p] W fun e W' => e = .returned (.int .u16 (nameF s 37 p.data.toList []).1) ∧ KpF T F v (nameF s 37 p.data.toList []).2 W W'
  size : ∀ {F W v s} (fd : Nat), T F W v s → FOk s → fd ≤ 65535 → Calls Try.prog 40 #[v, .int .u16 (fd : Int)] W fun e W' => e = .returned (.int .u16 (sizeF s fd)) ∧ KpF T F v s W W'
  read : ∀ {F W v s} (fd n : Nat), T F W v s → FOk s → fd ≤ 65535 → n ≤ 65535 → Calls Try.prog 35 #[v, .int .u16 (fd : Int), .int .u16 (n : Int)] W fun e W' => BnP T F v W (readF s fd n).1 (readF s fd n).2 e W'
  data : ∀ {F W v s} (p : ByteArray), T F W v s → FOk s → p.size ≤ 140737488351232 → Calls Try.prog 38 #[v, .string p] W fun e W' => BnP T F v W (bytesF s p.data.toList) s e W'
/-- The blocks of K are as they were. -/
structure Sm (K : Nat → Prop) (w w' : World) : Prop where
  os : w'.os = w.os
  output : w'.output = w.output
  size : w.heap.size ≤ w'.heap.size
  block : ∀ k, K k → w'.heap[k]? = w.heap[k]?
theorem Sm.refl (K : Nat → Prop) (w : World) : Sm K w w := ⟨rfl, rfl, Nat.le_refl _, fun _ _ => rfl⟩
theorem Sm.trans {K : Nat → Prop} {a b c : World} (h : Sm K a b) (k : Sm K b c) : Sm K a c := ⟨k.os.trans h.os, k.output.trans h.output, Nat.le_trans h.size k.size, fun j hj => (k.block j hj).trans (h.block j hj)⟩
theorem Sm.less {K K' : Nat → Prop} {a b : World} (h : Sm K a b) (k : ∀ j, K' j → K j) : Sm K' a b := ⟨h.os, h.output, h.size, fun j hj => h.block j (k j hj)⟩
theorem Sm.gw {K : Nat → Prop} {a b : World} (h : Sm K a b) (k : ∀ j, j < a.heap.size → K j) : Gw a b := ⟨h.os, rfl, h.output, h.size, fun j hj => h.block j (k j hj)⟩
theorem Sm.cell {K : Nat → Prop} {a b : World} (h : Sm K a b) {g i : Nat} {v : Value} (hg : K g) (hc : a.cell? ⟨g, i, none⟩ = some v) : b.cell? ⟨g, i, none⟩ = some v := (World.cell?_of_block (a := ⟨g, i, none⟩) (h.block g hg)).trans hc
/-- In which block a slice is. -/
def Bk (x : Value) (k : Nat) : Prop := ∃ off n cap, x = .slice (some ⟨k, off, none⟩) (n + 1) cap
theorem BtA.sm {K : Nat → Prop} {w w' : World} {x : Value} {l : List UInt8} (h : BtA w x l) (k : ∀ j, Bk x j → K j) (m : Sm K w w') : BtA w' x l := by
  obtain ⟨A, cap, rfl, h2, h3, h4⟩ := h
  refine ⟨A, cap, rfl, h2, h3, fun j c hj => ?_⟩
  obtain ⟨b, off, rfl, hc⟩ := h4 j c hj
  have hl := (List.getElem?_eq_some_iff.1 hj).1
  exact ⟨b, off, rfl, m.cell (k b ⟨off, l.length - 1, cap, by rw [show l.length - 1 + 1 = l.length by omega]⟩) hc⟩
theorem nums_back : ∀ l : List UInt8, (l.map fun c => (c.toNat : Int)).map (fun n => UInt8.ofNat n.toNat) = l
  | [] => rfl
  | c :: l => by
    rw [List.map_cons, List.map_cons, nums_back l, Int.toNat_natCast, UInt8.ofNat_toNat]
theorem nums_bs (l : List UInt8) : strOfNums (l.map fun c => (c.toNat : Int)) = bs l := by
  unfold strOfNums bs
  rw [nums_back]
theorem conv_bta {w : World} {y : Value} {l : List UInt8} (h : BtA w y l) : (convert 52 9 y).run Try.prog w = .ok (.string (bs l)) w := by
  obtain ⟨A, cap, rfl, h2, h3, h4⟩ := h
  cases l with
  | nil => exact run_convert_bytes_zero w _ _ Try.underlying52 Try.underlying5 A cap _ Try.underlying9
  | cons c0 l0 =>
    obtain ⟨b, off, rfl, _⟩ := h4 0 c0 rfl
    have := run_convert_bytes_arg (P := Try.prog) w 52 5 Try.underlying52 Try.underlying5 b off (c0 :: l0).length cap ((c0 :: l0).map fun c => (c.toNat : Int)) (by simp) (fun i hi => by
      obtain ⟨b', o', e, hc⟩ := h4 i _ (List.getElem?_eq_getElem hi)
      cases e
      rw [hc]
      have : i < ((c0 :: l0).map fun c => (c.toNat : Int)).length := by simpa using hi
      simp only [List.getD, List.getElem?_eq_getElem this, Option.getD_some, List.getElem_map]) 9 Try.underlying9
    rw [this, nums_bs]
/-- A file system, and blocks beside it. -/
structure Fw (T : FP) (K : Nat → Prop) (w : World) (v : Value) (s : Fs) : Prop where
  ex : ∃ F, T F w v s ∧ ∀ k, K k → ¬ F k ∧ k < w.heap.size
section
variable {T : FP} {K : Nat → Prop} {w : World} {v : Value} {s : Fs}
theorem Fw.lt (M : Fw T K w v s) {k : Nat} (hk : K k) : k < w.heap.size := by obtain ⟨F, _, h⟩ := M.ex; exact (h k hk).2
theorem Fw.on (C : FilesC T) (M : Fw T K w v s) {w' : World} (G : Gw w w') : Fw T K w' v s := by
  obtain ⟨F, h, hF⟩ := M.ex
  exact ⟨F, C.same h (fun k hk => G.block k (C.lt h hk)), fun k hk => ⟨(hF k hk).1, Nat.lt_of_lt_of_le (hF k hk).2 G.size⟩⟩
theorem Fw.sm (M : Fw T K w v s) {w' : World} (G : Gw w w') : Sm K w w' := ⟨G.os, G.output, G.size, fun k hk => G.block k (M.lt hk)⟩
/-- A block more. -/
theorem Fw.box (C : FilesC T) (M : Fw T K w v s) (o : Obj) : Fw T (fun k => K k ∨ k = w.heap.size) (w.alloc o) v s := by
  obtain ⟨F, h, hF⟩ := M.ex
  have G := Gw.alloc w o
  refine ⟨F, C.same h (fun k hk => G.block k (C.lt h hk)), fun k hk => ?_⟩
  rcases hk with hk | rfl
  · exact ⟨(hF k hk).1, Nat.lt_of_lt_of_le (hF k hk).2 G.size⟩
  · exact ⟨fun hf => Nat.lt_irrefl _ (C.lt h hf), lt_of_heap (heap_alloc_new w o)⟩
theorem Fw.less (M : Fw T K w v s) {K' : Nat → Prop} (k : ∀ j, K' j → K j) : Fw T K' w v s := by
  obtain ⟨F, h, hF⟩ := M.ex
  exact ⟨F, h, fun j hj => hF j (k j hj)⟩
/-- One of the blocks beside it is written. -/
theorem Fw.put (C : FilesC T) (M : Fw T K w v s) {g : Nat} (hg : K g) (i : Nat) (u : Value) : Fw T K (w.setCell ⟨g, i, none⟩ u) v s := by
  obtain ⟨F, h, hF⟩ := M.ex
  exact ⟨F, C.same h (fun k hk => set_other (p := ⟨g, i, none⟩) (fun e => (hF g hg).1 (by rw [show k = g from e] at hk; exact hk))), fun k hk => ⟨(hF k hk).1, by have := (hF k hk).2; simpa using this⟩⟩
theorem Fw.next {F : Nat → Prop} (hF : ∀ k, K k → ¬ F k ∧ k < w.heap.size) {w' : World} {s' : Fs} (k : KpF T F v s' w w') : Fw T K w' v s' ∧ Sm K w w' := by
  obtain ⟨F', h1, h2⟩ := k.ex
  refine ⟨⟨F', h1, fun j hj => ⟨fun hf => ?_, Nat.lt_of_lt_of_le (hF j hj).2 k.ch.size⟩⟩, k.ch.os, k.ch.output, k.ch.size, fun j hj => k.ch.block j (hF j hj).2 (hF j hj).1⟩
  have := hF j hj
  rcases h2 j hf with h | h
  · exact this.1 h
  · omega
theorem Fw.bytes {F : Nat → Prop} (hF : ∀ k, K k → ¬ F k ∧ k < w.heap.size) {w' : World} {s' : Fs} {a : List UInt8 × Int} {e : Ending} (k : BnP T F v w a s' e w') :
    ∃ x, e = .returned (.tuple #[x, .int .u16 a.2]) ∧ Fw T (fun j => K j ∨ Bk x j) w' v s' ∧ Sm K w w' ∧ BtA w' x a.1 := by
  obtain ⟨x, F', rfl, ch, h1, h2, A, cap, rfl, b1, b2, b3⟩ := k
  refine ⟨_, rfl, ⟨F', h1, fun j hj => ?_⟩, ⟨ch.os, ch.output, ch.size, fun j hj => ch.block j (hF j hj).2 (hF j hj).1⟩, A, cap, rfl, b1, b2, fun j c hj => ?_⟩
  · rcases hj with hj | hj
    · have := hF j hj
      refine ⟨fun hf => ?_, Nat.lt_of_lt_of_le this.2 ch.size⟩
      rcases h2 j hf with h | h
      · exact this.1 h
      · omega
    · obtain ⟨off, n, c', e⟩ := hj
      injection e with e1 e2 e3
      obtain ⟨b, o, h3, _, h4, h5⟩ := b3 0 _ (List.getElem?_eq_getElem (by omega))
      rw [h3] at e1
      cases e1
      exact ⟨h4, lt_cell h5⟩
  · obtain ⟨b, o, h3, _, _, h5⟩ := b3 j c hj
    exact ⟨b, o, h3, h5⟩
theorem f_open (C : FilesC T) (M : Fw T K w v s) (ok : FOk s) (few : Few s) (p : ByteArray) (a0 : p.size ≤ 140737488351232) : Calls Try.prog 33 #[v, .string p] w fun e w' => e = .returned (.int .u16 (openF s p.data.toList).1) ∧ Fw T K w' v (openF s p.data.toList).2 ∧ Sm K w w' := by
  obtain ⟨F, h, hF⟩ := M.ex
  exact (C.open_ p h ok few a0).mono fun _ _ ⟨he, k⟩ => ⟨he, Fw.next hF k⟩
theorem f_write (C : FilesC T) (M : Fw T K w v s) (ok : FOk s) (few : Few s) (fd : Nat) (y : Value) (lb : List UInt8) (a0 : fd ≤ 65535) (a1 : BtA w y lb) (a2 : lb.length ≤ 4611686018427387904) : Calls Try.prog 37 #[v, .int .u16 (fd : Int), y] w fun e w' => e = .returned (.int .u16 (writeF s fd lb).1) ∧ Fw T K w' v (writeF s fd lb).2 ∧ Sm K w w' := by
  obtain ⟨F, h, hF⟩ := M.ex
  exact (C.write fd y lb h ok few a0 a1 a2).mono fun _ _ ⟨he, k⟩ => ⟨he, Fw.next hF k⟩
theorem f_seek (C : FilesC T) (M : Fw T K w v s) (ok : FOk s) (few : Few s) (fd a : Nat) (a0 : fd ≤ 65535) (a1 : a ≤ 65535) : Calls Try.prog 36 #[v, .int .u16 (fd : Int), .int .u16 (a : Int)] w fun e w' => e = .returned (.int .u16 (seekF s fd a).1) ∧ Fw T K w' v (seekF s fd a).2 ∧ Sm K w w' := by
  obtain ⟨F, h, hF⟩ := M.ex
  exact (C.seek fd a h ok few a0 a1).mono fun _ _ ⟨he, k⟩ => ⟨he, Fw.next hF k⟩
theorem f_size (C : FilesC T) (M : Fw T K w v s) (ok : FOk s) (fd : Nat) (a0 : fd ≤ 65535) : Calls Try.prog 40 #[v, .int .u16 (fd : Int)] w fun e w' => e = .returned (.int .u16 (sizeF s fd)) ∧ Fw T K w' v s ∧ Sm K w w' := by
  obtain ⟨F, h, hF⟩ := M.ex
  exact (C.size fd h ok a0).mono fun _ _ ⟨he, k⟩ => ⟨he, Fw.next hF k⟩
theorem f_read (C : FilesC T) (M : Fw T K w v s) (ok : FOk s) (fd n : Nat) (a0 : fd ≤ 65535) (a1 : n ≤ 65535) : Calls Try.prog 35 #[v, .int .u16 (fd : Int), .int .u16 (n : Int)] w fun e w' => ∃ x, e = .returned (.tuple #[x, .int .u16 (readF s fd n).1.2]) ∧ Fw T (fun j => K j ∨ Bk x j) w' v (readF s fd n).2 ∧ Sm K w w' ∧ BtA w' x (readF s fd n).1.1 := by
  obtain ⟨F, h, hF⟩ := M.ex
  exact (C.read fd n h ok a0 a1).mono fun _ _ k => Fw.bytes hF k
theorem f_new (C : FilesC T) {x y : Value} {es : List (List UInt8 × Bool)} {data : List (List UInt8)} (hx : EntAt w x es) (hy : DatN w y data) (a0 : ∀ e ∈ es, e.1.length ≤ 140737488351232) (a1 : es.length ≤ 4611686018427387904) (a2 : data.length ≤ 4611686018427387904) {s : Fs} (hn : newF es data = .inr s) :
    Calls Try.prog 30 #[x, y] w fun e w' => ∃ a, e = .returned (.tuple #[.pointer (some a), .int .i64 0]) ∧ Fw T (fun k => k < w.heap.size) w' (.pointer (some a)) s ∧ Gw w w' := by
  refine (C.new hx hy a0 a1 a2).mono fun e w' k => ?_
  unfold NewFP at k
  rw [hn] at k
  obtain ⟨a, F, he, h, G, hF⟩ := k
  exact ⟨a, he, ⟨F, h, fun j hj => ⟨fun hf => by have := hF j hf; omega, Nat.lt_of_lt_of_le hj G.size⟩⟩, G⟩
end
end Go.Proofs.Ytckoapfmfpmdgaa

namespace Go.Proofs.Ytckoapfmfpmdgaa
open Go.ChangeShapes Go.WideShapes Go.ChangeAt Go.RowKit Go.Joins
set_option linter.unusedVariables false
set_option linter.unusedSimpArgs false

theorem chf_trans {F F' : Nat → Prop} {a b c : World} (h : ChF F a b) (k : ChF F' b c) (hs : ∀ j, F' j → F j ∨ a.heap.size ≤ j) : ChF F a c :=
  ⟨k.os.trans h.os, k.output.trans h.output, Nat.le_trans h.size k.size, fun j hj hn => (k.block j (Nat.lt_of_lt_of_le hj h.size) (fun hf => by
    rcases hs j hf with q | q
    · exact hn q
    · omega)).trans (h.block j hj hn)⟩
theorem chf_gw {F : Nat → Prop} {a b : World} (h : Gw a b) : ChF F a b := ⟨h.os, h.output, h.size, fun k hk _ => h.block k hk⟩
theorem chf_but {g : Nat} {a b : World} (h : But g a b) : ChF (fun k => k = g) a b := ⟨h.os, h.output, h.size, fun k hk hn => h.block k hk hn⟩
theorem chf_turn {b : Nat} {V V' : World} (h : V.mapTurned V' b) : ChF (fun k => k = b) V V' := by
  have hg := h.grown
  exact ⟨hg.os, hg.output, hg.size, fun k hk hn => hg.block k hk (fun e => hn (by injection e))⟩
abbrev tI : TypeId := 3
abbrev tU : TypeId := 46
abbrev tMF : TypeId := 107
abbrev tMO : TypeId := 108
abbrev tMD : TypeId := 109
abbrev ubV (c : UInt8) : Value := .int .u8 (c.toNat : Int)
abbrev filC (x : Fil) : List Value := x.b.map ubV ++ [.int .i64 (x.n : Int), .bool x.out]
abbrev filV (x : Fil) : Value := .agg (filC x).toArray
abbrev opnV (x : Nat × Nat) : Value := .agg #[.int .i64 (x.1 : Int), .int .i64 (x.2 : Int)]
abbrev numV (k : Nat) : Value := .int .i64 (k : Int)
theorem uI : Try.prog.underlying tI = some (.int .i64) := Try.underlying3
theorem uU : Try.prog.underlying tU = some (.int .u16) := Try.underlying46
theorem wfI {k : Nat} (h : k ≤ 9223372036854775807) : (Lit.int .i64 (k : Int)).wf = true := by
  simp [Lit.wf, IntKind.min, IntKind.max, IntKind.bits, IntKind.signed]
  omega
theorem wfU {k : Nat} (h : k ≤ 65535) : (Lit.int .u16 (k : Int)).wf = true := by
  simp [Lit.wf, IntKind.min, IntKind.max, IntKind.bits, IntKind.signed]
  omega
abbrev fF (g fb ob db : Nat) (Ft : Nat → Prop) : Nat → Prop := fun k => k = g ∨ k = fb ∨ k = ob ∨ k = db ∨ Ft k
structure Sep (g fb ob db : Nat) (Ft : Nat → Prop) : Prop where
  tg : ¬ Ft g
  tf : ¬ Ft fb
  tq : ¬ Ft ob
  td : ¬ Ft db
  gf : g ≠ fb
  go : g ≠ ob
  gd : g ≠ db
  fo : fb ≠ ob
  fd : fb ≠ db
  od : ob ≠ db
structure Fi (T : TP) (W : World) (F0 : Nat → Prop) (Ft : Nat → Prop) (w : World) (g : Nat) (a : Addr) (fb ob db : Nat) (c : Cs) : Prop where
  hd : Has w g 111 #[.pointer (some a), .map (some fb), .map (some ob), .map (some db), .int .i64 (c.nx : Int)]
  tr : T Ft w (.pointer (some a)) c.t
  fm : NM w tI .i64 fb (fun n => (c.f n).map filV)
  om : NM w tI .i64 ob (fun n => (c.o n).map opnV)
  dm : NM w tU .u16 db (fun n => (c.d n).map numV)
  l8 : ∀ n x, c.f n = some x → x.b.length = 8
  sep : Sep g fb ob db Ft
  ch : ChF F0 W w
  own : ∀ k, fF g fb ob db Ft k → F0 k ∨ W.heap.size ≤ k
theorem map_set {α : Type} (m : Nat → Option α) (f : α → Value) (k : Nat) (x : Option α) : (fun n => (setM m k x n).map f) = setM (fun n => (m n).map f) k (x.map f) := by
  funext n
  unfold setM
  split <;> rfl
section
variable {T : TP} {W : World} {F0 Ft : Nat → Prop} {w w' : World} {g : Nat} {a : Addr} {fb ob db : Nat} {c : Cs}
theorem Fi.lt (C : TreeC T) (h : Fi T W F0 Ft w g a fb ob db c) {k : Nat} (hk : fF g fb ob db Ft k) : k < w.heap.size := by
  rcases hk with rfl | rfl | rfl | rfl | hk
  · exact h.hd.lt
  · exact h.fm.lt
  · exact h.om.lt
  · exact h.dm.lt
  · exact C.lt h.tr hk
/-- Nothing of its own has changed. -/
theorem Fi.same (C : TreeC T) (h : Fi T W F0 Ft w g a fb ob db c) (e : ∀ k, fF g fb ob db Ft k → w'.heap[k]? = w.heap[k]?) (hc : ChF F0 W w') : Fi T W F0 Ft w' g a fb ob db c :=
  ⟨h.hd.same (e g (.inl rfl)), C.same h.tr (fun k hk => e k (.inr (.inr (.inr (.inr hk))))), h.fm.same (e fb (.inr (.inl rfl))), h.om.same (e ob (.inr (.inr (.inl rfl)))), h.dm.same (e db (.inr (.inr (.inr (.inl rfl))))), h.l8, h.sep, hc, h.own⟩
theorem Fi.on (C : TreeC T) (h : Fi T W F0 Ft w g a fb ob db c) (G : Gw w w') : Fi T W F0 Ft w' g a fb ob db c :=
  h.same C (fun k hk => G.block k (h.lt C hk)) (chf_trans h.ch (chf_gw (F := F0) G) (fun j hj => .inl hj))
/-- A block that is not its own has changed. -/
theorem Fi.off (C : TreeC T) (h : Fi T W F0 Ft w g a fb ob db c) {x : Nat} (hx : ¬ fF g fb ob db Ft x) (h0 : W.heap.size ≤ x) (hB : But x w w') : Fi T W F0 Ft w' g a fb ob db c :=
  h.same C (fun k hk => hB.block k (h.lt C hk) (fun e => hx (e ▸ hk))) (chf_trans h.ch (chf_but hB) (fun j hj => .inr (by rw [hj]; exact h0)))
theorem Fi.chB (h : Fi T W F0 Ft w g a fb ob db c) {b : Nat} (hb : fF g fb ob db Ft b) (k : ChF (fun j => j = b) w w') : ChF F0 W w' :=
  chf_trans h.ch k (fun j hj => by rw [hj]; exact h.own b hb)
theorem turn_block {b k : Nat} (ht : w.mapTurned w' b) (hk : k < w.heap.size) (hne : k ≠ b) : w'.heap[k]? = w.heap[k]? := ht.grown.block k hk (fun e => hne (Option.some.inj e))
theorem Fi.turnf (C : TreeC T) (h : Fi T W F0 Ft w g a fb ob db c) (ht : w.mapTurned w' fb) {k : Nat} {x : Option Fil} (h8 : ∀ y, x = some y → y.b.length = 8) (hn : NM w' tI .i64 fb (setM (fun n => (c.f n).map filV) k (x.map filV))) : Fi T W F0 Ft w' g a fb ob db { c with f := setM c.f k x } := by
  have e : ∀ k, fF g fb ob db Ft k → k ≠ fb → w'.heap[k]? = w.heap[k]? := fun k hk hne => turn_block ht (h.lt C hk) hne
  exact ⟨h.hd.same (e g (.inl rfl) h.sep.gf), C.same h.tr (fun k hk => e k (.inr (.inr (.inr (.inr hk)))) (fun q => h.sep.tf (q ▸ hk))), by rw [← map_set] at hn; exact hn, h.om.same (e ob (.inr (.inr (.inl rfl))) h.sep.fo.symm), h.dm.same (e db (.inr (.inr (.inr (.inl rfl)))) h.sep.fd.symm), fun n y hy => by rcases setM_some hy with ⟨_, e⟩ | ⟨_, hy⟩; exact h8 y e; exact h.l8 n y hy, h.sep, h.chB (.inr (.inl rfl)) (chf_turn ht), h.own⟩
theorem Fi.turno (C : TreeC T) (h : Fi T W F0 Ft w g a fb ob db c) (ht : w.mapTurned w' ob) {k : Nat} {x : Option (Nat × Nat)} (hn : NM w' tI .i64 ob (setM (fun n => (c.o n).map opnV) k (x.map opnV))) : Fi T W F0 Ft w' g a fb ob db { c with o := setM c.o k x } := by
  have e : ∀ k, fF g fb ob db Ft k → k ≠ ob → w'.heap[k]? = w.heap[k]? := fun k hk hne => turn_block ht (h.lt C hk) hne
  exact ⟨h.hd.same (e g (.inl rfl) h.sep.go), C.same h.tr (fun k hk => e k (.inr (.inr (.inr (.inr hk)))) (fun q => h.sep.tq (q ▸ hk))), h.fm.same (e fb (.inr (.inl rfl)) h.sep.fo), by rw [← map_set] at hn; exact hn, h.dm.same (e db (.inr (.inr (.inr (.inl rfl)))) h.sep.od.symm), h.l8, h.sep, h.chB (.inr (.inr (.inl rfl))) (chf_turn ht), h.own⟩
theorem Fi.turnd (C : TreeC T) (h : Fi T W F0 Ft w g a fb ob db c) (ht : w.mapTurned w' db) {k : Nat} {x : Option Nat} (hn : NM w' tU .u16 db (setM (fun n => (c.d n).map numV) k (x.map numV))) : Fi T W F0 Ft w' g a fb ob db { c with d := setM c.d k x } := by
  have e : ∀ k, fF g fb ob db Ft k → k ≠ db → w'.heap[k]? = w.heap[k]? := fun k hk hne => turn_block ht (h.lt C hk) hne
  exact ⟨h.hd.same (e g (.inl rfl) h.sep.gd), C.same h.tr (fun k hk => e k (.inr (.inr (.inr (.inr hk)))) (fun q => h.sep.td (q ▸ hk))), h.fm.same (e fb (.inr (.inl rfl)) h.sep.fd), h.om.same (e ob (.inr (.inr (.inl rfl))) h.sep.od), by rw [← map_set] at hn; exact hn, h.l8, h.sep, h.chB (.inr (.inr (.inr (.inl rfl)))) (chf_turn ht), h.own⟩
theorem Fi.next (C : TreeC T) (h : Fi T W F0 Ft w g a fb ob db c) (n : Nat) : Fi T W F0 Ft (w.setCell ⟨g, 4, none⟩ (.int .i64 (n : Int))) g a fb ob db { c with nx := n } := by
  have e : ∀ k, k ≠ g → (w.setCell ⟨g, 4, none⟩ (.int .i64 (n : Int))).heap[k]? = w.heap[k]? := fun k hk => set_other hk
  exact ⟨h.hd.put 4 _, C.same h.tr (fun k hk => e k (fun q => h.sep.tg (q ▸ hk))), h.fm.same (e fb h.sep.gf.symm), h.om.same (e ob h.sep.go.symm), h.dm.same (e db h.sep.gd.symm), h.l8, h.sep, h.chB (.inl rfl) (chf_but (But.set g w 4 _)), h.own⟩
theorem Fi.tree (C : TreeC T) (h : Fi T W F0 Ft w g a fb ob db c) {t' : St} (k : Kp T Ft (.pointer (some a)) t' w w') : ∃ Ft', Fi T W F0 Ft' w' g a fb ob db { c with t := t' } := by
  obtain ⟨F', h1, h2⟩ := k.ex
  have nt : ∀ j, j < w.heap.size → ¬ Ft j → ¬ F' j := fun j hj hn hf => by
    rcases h2 j hf with q | q
    · exact hn q
    · omega
  have e : ∀ j, j < w.heap.size → ¬ Ft j → w'.heap[j]? = w.heap[j]? := k.ch.block
  have lg := h.hd.lt
  have lf := h.fm.lt
  have lo := h.om.lt
  have ld := h.dm.lt
  refine ⟨F', h.hd.same (e g lg h.sep.tg), h1, h.fm.same (e fb lf h.sep.tf), h.om.same (e ob lo h.sep.tq), h.dm.same (e db ld h.sep.td), h.l8, ⟨nt g lg h.sep.tg, nt fb lf h.sep.tf, nt ob lo h.sep.tq, nt db ld h.sep.td, h.sep.gf, h.sep.go, h.sep.gd, h.sep.fo, h.sep.fd, h.sep.od⟩, chf_trans h.ch k.ch (fun j hj => h.own j (.inr (.inr (.inr (.inr hj))))), fun j hj => ?_⟩
  rcases hj with hj | hj | hj | hj | hj
  · exact h.own j (.inl hj)
  · exact h.own j (.inr (.inl hj))
  · exact h.own j (.inr (.inr (.inl hj)))
  · exact h.own j (.inr (.inr (.inr (.inl hj))))
  · rcases h2 j hj with q | q
    · exact h.own j (.inr (.inr (.inr (.inr q))))
    · exact .inr (Nat.le_trans h.ch.size q)
theorem Fi.box (C : TreeC T) (h : Fi T W F0 Ft w g a fb ob db c) : ¬ fF g fb ob db Ft w.heap.size := fun hk => Nat.lt_irrefl _ (h.lt C hk)
theorem Fi.drew (C : TreeC T) (h : Fi T W F0 Ft w g a fb ob db c) : Fi T W F0 Ft w.drew g a fb ob db c := h.on C (Gw.refl w).drew
end
/-- From now on. -/
theorem Fi.base {T : TP} {W : World} {F0 Ft : Nat → Prop} {w : World} {g : Nat} {a : Addr} {fb ob db : Nat} {c : Cs} (h : Fi T W F0 Ft w g a fb ob db c) : Fi T w (fF g fb ob db Ft) Ft w g a fb ob db c :=
  ⟨h.hd, h.tr, h.fm, h.om, h.dm, h.l8, h.sep, ⟨rfl, rfl, Nat.le_refl _, fun _ _ _ => rfl⟩, fun k hk => .inl hk⟩
/-- A file system of the program. -/
def FTT (T : TP) : FP := fun F w v s => ∃ g a fb ob db Ft c, v = .pointer (some ⟨g, 0, none⟩) ∧ Fi T w (fF g fb ob db Ft) Ft w g a fb ob db c ∧ Rel c s ∧ F = fF g fb ob db Ft
theorem Fi.kpf {T : TP} {W : World} {F0 Ft : Nat → Prop} {w : World} {g : Nat} {a : Addr} {fb ob db : Nat} {c : Cs} {s : Fs} (h : Fi T W F0 Ft w g a fb ob db c) (R : Rel c s) : KpF (FTT T) F0 (.pointer (some ⟨g, 0, none⟩)) s W w :=
  ⟨h.ch, fF g fb ob db Ft, ⟨g, a, fb, ob, db, Ft, c, rfl, h.base, R, rfl⟩, h.own⟩
end Go.Proofs.Ytckoapfmfpmdgaa

namespace Go.Proofs.Ytckoapfmfpmdgaa
open Go.ChangeShapes Go.WideShapes Go.ChangeAt Go.RowKit Go.Joins
set_option linter.unusedVariables false
set_option linter.unusedSimpArgs false

/-- What opened answers. -/
def opdV : Option Nat → Value
  | some i => .tuple #[.int .i64 (i : Int), .int .u16 0, .bool true]
  | none => .tuple #[.int .i64 0, .int .u16 65289, .bool false]
/-- What free answers. -/
def FreeP (c : Cs) (e : Ending) : Prop := (∃ k : Nat, k < 4 ∧ c.d k = none ∧ (∀ j, j < k → c.d j ≠ none) ∧ e = .returned (.tuple #[.int .u16 (k : Int), .int .u16 0])) ∨ ((∀ j, j < 4 → c.d j ≠ none) ∧ e = .returned (.tuple #[.int .u16 0, .int .u16 65304]))
theorem zI (w : World) : (zeroValue tI).run Try.prog w = .ok (.int .i64 0) w := by kernel_rfl
theorem zO (w : World) : (zeroValue 124).run Try.prog w = .ok (opnV (0, 0)) w := by kernel_rfl
theorem zF (w : World) : (zeroValue 114).run Try.prog w = .ok (filV ⟨List.replicate 8 0, 0, false⟩) w := by kernel_rfl
section
variable {T : TP} {W : World} {F0 Ft : Nat → Prop} {w : World} {g : Nat} {a : Addr} {fb ob db : Nat} {c : Cs}
theorem Fi.lookd (h : Fi T W F0 Ft w g a fb ob db c) {k : Nat} (hk : k ≤ 65535) : (Instr.lookup tMD (.map (some db)) (.int .u16 (k : Int)) true).run Try.prog w = .ok (.tuple #[((c.d k).map numV).getD (.int .i64 0), .bool ((c.d k).map numV).isSome]) w :=
  h.dm.look_ok uU Try.underlying109 (zI w) (wfU hk)
theorem Fi.looko (h : Fi T W F0 Ft w g a fb ob db c) {k : Nat} (hk : k ≤ 9223372036854775807) : (Instr.lookup tMO (.map (some ob)) (.int .i64 (k : Int)) false).run Try.prog w = .ok (((c.o k).map opnV).getD (opnV (0, 0))) w :=
  h.om.look uI Try.underlying108 (zO w) (wfI hk)
theorem Fi.lookf (h : Fi T W F0 Ft w g a fb ob db c) {k : Nat} (hk : k ≤ 9223372036854775807) : (Instr.lookup tMF (.map (some fb)) (.int .i64 (k : Int)) false).run Try.prog w = .ok (((c.f k).map filV).getD (filV ⟨List.replicate 8 0, 0, false⟩)) w :=
  h.fm.look uI Try.underlying107 (zF w) (wfI hk)
theorem znone_any (h : Fi T W F0 Ft w g a fb ob db c) : Calls Try.prog 72 #[.pointer (some ⟨g, 0, none⟩)] w fun e w' => e = .returned (.bool false) ∧ Gw w w' := by
  have c0 : w.cell? ⟨g, 0, none⟩ = some (.pointer (some a)) := h.hd.cell 0
  clear h
  go_enter Try.func72, Try.ntmps72
  go_wp2
  go_ret
  exact ⟨rfl, Gw.refl _⟩
theorem zopened_any (C : TreeC T) (h : Fi T W F0 Ft w g a fb ob db c) {fd : Nat} (hf : fd ≤ 65535) : Calls Try.prog 76 #[.pointer (some ⟨g, 0, none⟩), .int .u16 (fd : Int)] w fun e w' => e = .returned (opdV (c.d fd)) ∧ Gw w w' := by
  have N := znone_any h
  have c3 : ∀ w', Gw w w' → w'.cell? ⟨g, 3, none⟩ = some (.map (some db)) := fun w' G => (h.on C G).hd.cell 3
  have L := fun w' (G : Gw w w') => (h.on C G).lookd hf
  have hn : ∀ b w, (Op.unary .not (.bool b)).run Try.prog w = .ok (.bool (!b)) w := fun _ _ => rfl
  clear h
  cases hd : c.d fd with
  | none =>
    simp only [hd, Option.map_none, Option.getD_none, Option.isSome_none] at L
    go_enter Try.func76, Try.ntmps76
    go_wp2_with (go_at_call 72; with_reducible refine N.mono ?_; rintro e w1 ⟨rfl, G1⟩; have d3 := c3 _ G1; have L1 := L _ G1)
    go_ret3
    exact ⟨rfl, G1⟩
  | some i =>
    simp only [hd, Option.map_some, Option.getD_some, Option.isSome_some] at L
    go_enter Try.func76, Try.ntmps76
    go_wp2_with (go_at_call 72; with_reducible refine N.mono ?_; rintro e w1 ⟨rfl, G1⟩; have d3 := c3 _ G1; have L1 := L _ G1)
    go_ret3
    exact ⟨rfl, G1⟩
theorem zfree_any (C : TreeC T) (h : Fi T W F0 Ft w g a fb ob db c) : Calls Try.prog 74 #[.pointer (some ⟨g, 0, none⟩)] w fun e w' => FreeP c e ∧ Gw w w' := by
  have c3 : w.cell? ⟨g, 3, none⟩ = some (.map (some db)) := h.hd.cell 3
  have L : ∀ k : Nat, k ≤ 65535 → _ := fun k hk => h.lookd (k := k) hk
  have hn : ∀ b w, (Op.unary .not (.bool b)).run Try.prog w = .ok (.bool (!b)) w := fun _ _ => rfl
  have HL := Lib.hid L
  clear h L
  go_enter Try.func74, Try.ntmps74
  go_wp2_with fail
  go_loopw [7] (fun x wr => ∃ k : Nat, x = .int .u16 (k : Int) ∧ Hid (k ≤ 4 ∧ (∀ j, j < k → c.d j ≠ none) ∧ wr = w)) (fun x wr => 4 - (intOf x).toNat)
  case atStart => exact ⟨0, rfl, Nat.zero_le _, fun j hj => absurd hj (Nat.not_lt_zero j), rfl⟩
  case round =>
    obtain ⟨k, rfl, hk⟩ := hrel
    obtain ⟨hk4, hall, rfl⟩ := hk.out
    have HA := Lib.hid hall
    have HK4 := Lib.hid hk4
    clear hk hall
    by_cases hlt : k < 4
    · have t0 : decide ((k : Int) < 4) = true := decide_eq_true (by omega)
      have L := HL.out k (by omega)
      have hw : IntKind.u16.wrap ((k : Int) + 1) = ((k + 1 : Nat) : Int) := by
        simp only [IntKind.wrap, IntKind.bits, IntKind.signed]
        simp
        omega
      have HLT := Lib.hid hlt
      clear hk4 hlt
      cases hd : c.d k with
      | none =>
        simp only [hd, Option.map_none, Option.getD_none, Option.isSome_none] at L
        have HD := Lib.hid hd
        clear hd
        go_wp2
        go_ret2
        exact ⟨.inl ⟨k, HLT.out, HD.out, HA.out, rfl⟩, Gw.refl _⟩
      | some i =>
        simp only [hd, Option.map_some, Option.getD_some, Option.isSome_some] at L
        have HD := Lib.hid hd
        clear hd
        go_wp2
        go_roundw
        case rel => exact ⟨k + 1, by go_num, by have := HLT.out; omega, fun j hj => by
          rcases Nat.lt_or_ge j k with q | q
          · exact HA.out j q
          · rw [show j = k by omega, HD.out]; simp, by first | rfl | trivial⟩
        case measure => have := HLT.out; simp [intOf]; omega
    · have t0 : decide ((k : Int) < 4) = false := decide_eq_false (by omega)
      obtain rfl : k = 4 := by omega
      clear hlt
      go_wp2
      go_ret2
      exact ⟨.inr ⟨HA.out, rfl⟩, Gw.refl _⟩
end
end Go.Proofs.Ytckoapfmfpmdgaa
