/-
  parse of package prog: bytes as a program.
-/
import Derived.Test.YtcecmkelefhaaaaDoorProgH
import Derived.Deep.RegionWith
import Derived.BigRegion
import Derived.Deep.RegionLaw
import Derived.Deep.CutBlock
import Derived.Deep.CutRange
import Derived.Deep.DeepCutAuto
namespace Go.Proofs.YtcecmkelefhaaaaDoor
open Go.ChangeShapes Go.WideShapes Go.ChangeAt Go.RowKit Go.Joins
set_option linter.unusedVariables false

theorem infoStr : (Tryd.prog.info? 9).map (fun i => (i.zero, i.size, i.bytes)) = some (some (.string ⟨#[]⟩), 1, 16) := by kernel_rfl
theorem info_str : ∃ i, Tryd.prog.info? 9 = some i ∧ i.zero = some (.string ⟨#[]⟩) ∧ i.size = 1 ∧ i.bytes = 16 := by
  have h := infoStr
  cases hi : Tryd.prog.info? 9 with
  | none => rw [hi] at h; simp at h
  | some i =>
    rw [hi] at h
    simp only [Option.map_some, Option.some.injEq, Prod.mk.injEq] at h
    exact ⟨i, rfl, h.1, h.2.1, h.2.2⟩
theorem infoInst : (Tryd.prog.info? 41).map (fun i => (i.zero, i.size, i.bytes)) = some (some (.agg #[.int .i64 0, .int .i64 0]), 2, 16) := by kernel_rfl
theorem info_inst : ∃ i, Tryd.prog.info? 41 = some i ∧ i.zero = some (.agg #[.int .i64 0, .int .i64 0]) ∧ i.size = 2 ∧ i.bytes = 16 := by
  have h := infoInst
  cases hi : Tryd.prog.info? 41 with
  | none => rw [hi] at h; simp at h
  | some i =>
    rw [hi] at h
    simp only [Option.map_some, Option.some.injEq, Prod.mk.injEq] at h
    exact ⟨i, rfl, h.1, h.2.1, h.2.2⟩
theorem conv_by {w0 W : World} {A : Option Addr} {l : List UInt8} {cap : Nat} (h : ByAt w0 A l) (G : Gw w0 W) :
    (convert 28 9 (.slice A l.length cap)).run Tryd.prog W = .ok (.string ⟨l.toArray⟩) W := by
  cases A with
  | none =>
    have : l = [] := by
      cases l with
      | nil => rfl
      | cons z l =>
        obtain ⟨b, off, e, _⟩ := h 0 z rfl
        cases e
    subst this
    show (convert 28 9 (.slice Option.none 0 cap)).run Tryd.prog W = _
    rw [run_convert_bytes_string W _ _ _ Option.none 0 cap Tryd.underlying28 Tryd.underlying5 Tryd.underlying9]
    rfl
  | some ad =>
    exact run_convert_bytes_back (P := Tryd.prog) W 28 9 5 ad cap l Tryd.underlying28 Tryd.underlying5 Tryd.underlying9 (fun j hj => by
      obtain ⟨b, off, e, _, hc⟩ := h j l[j] (List.getElem?_eq_getElem hj)
      injection e with e
      subst e
      rw [add_eq]
      have := G.cell hc
      simpa [hj] using this)
/-- A row of the call's own, kept. -/
theorem own_keep {w w' : World} {base : Nat} {e : TypeId} {size n : Nat} {v : Value} {xs : List Value} (h : w.ownsRow base e size v n xs) (k : ∀ b, base ≤ b → b < w.heap.size → w'.heap[b]? = w.heap[b]?) : w'.ownsRow base e size v n xs := by
  refine ⟨h.1, ?_⟩
  rcases h.2 with h0 | ⟨b, cap, cur, h0, h1, h2, h3⟩
  · exact .inl h0
  · exact .inr ⟨b, cap, cur, h0, h1, (k b h1 (lt_of_heap h2)).trans h2, h3⟩
/-- parse's memory while it reads names: the reader in block g, the result in rb, the program in pb; the row of names from B on. -/
structure PN (w0 W : World) (g rb pb B : Nat) (s : Rd) (v : Value) (N : List ByteArray) : Prop where
  rd : RdAt w0 W g s
  res : Has W rb 25 #[.slice none 0 0, .slice none 0 0]
  box : Has W pb 25 #[.slice none 0 0, v]
  own : W.ownsRow B 9 1 v N.length (N.map Value.string)
theorem PN.but {w0 W W' : World} {g rb pb B : Nat} {s s' : Rd} {v : Value} {N : List ByteArray} (h : PN w0 W g rb pb B s v N) (hr : RdAt w0 W' g s') (b : But g W W') (h1 : rb ≠ g) (h2 : pb ≠ g) (h3 : g < B) : PN w0 W' g rb pb B s' v N :=
  ⟨hr, b.has h1 h.res, b.has h2 h.box, own_keep h.own fun k hk hs => b.block k hs (by omega)⟩
theorem box1 {W : World} {pb : Nat} {t : TypeId} {a v : Value} (h : Has W pb t #[a, v]) : W.cell? ⟨pb, 1, none⟩ = some v ∧ W.frozen? ⟨pb, 1, none⟩ = false := ⟨h.cell 1, h.free 1⟩
theorem box0 {W : World} {pb : Nat} {t : TypeId} {a v : Value} (h : Has W pb t #[a, v]) : W.cell? ⟨pb, 0, none⟩ = some a ∧ W.frozen? ⟨pb, 0, none⟩ = false := ⟨h.cell 0, h.free 0⟩
theorem PN.drew {w0 W : World} {g rb pb B : Nat} {s : Rd} {v : Value} {N : List ByteArray} (h : PN w0 W g rb pb B s v N) : PN w0 W.drew g rb pb B s v N :=
  ⟨h.rd.on (Gw.refl W).drew, h.res, h.box, h.own⟩
theorem PN.alloc {w0 W : World} {g rb pb B : Nat} {s : Rd} {v : Value} {N : List ByteArray} (h : PN w0 W g rb pb B s v N) (o : Obj) : PN w0 (W.alloc o) g rb pb B s v N :=
  ⟨h.rd.on (Gw.alloc W o), h.res.same ((Gw.alloc W o).block _ h.res.lt), h.box.same ((Gw.alloc W o).block _ h.box.lt), h.own.alloc o⟩
theorem PN.gbox {w0 W W' : World} {g rb pb B : Nat} {s : Rd} {v : Value} {N : List ByteArray} (h : PN w0 W g rb pb B s v N) (hg : W.grownBy W' v.ownBlock) (h4 : pb < B) : Has W' pb 25 #[.slice none 0 0, v] :=
  h.box.same (hg.block pb h.box.lt fun e => by have := (h.own.lt pb e.symm).1; omega)
/-- Behind an append to the row of names. -/
theorem PN.more {w0 W W' : World} {g rb pb B g1 cap : Nat} {s : Rd} {v : Value} {N : List ByteArray} {t : ByteArray} (h : PN w0 W g rb pb B s v N) (hown : W'.ownsRow B 9 1 (.slice (some ⟨g1, 0, none⟩) (N.length + 1) cap) (N.length + 1) (N.map Value.string ++ [.string t]))
    (hg : W.grownBy W' v.ownBlock) (h1 : w0.heap.size ≤ g) (h2 : g < B) (h3 : rb < B) (h4 : pb < B) (h5 : w0.heap.size ≤ pb) (h6 : pb ≠ g) (h7 : pb ≠ rb) :
    PN w0 (W'.setCell ⟨pb, 1, none⟩ (.slice (some ⟨g1, 0, none⟩) (N.length + 1) cap)) g rb pb B s (.slice (some ⟨g1, 0, none⟩) (N.length + 1) cap) (N ++ [t]) := by
  have far : ∀ b, b < B → b < W.heap.size → W'.heap[b]? = W.heap[b]? := fun b hb hs => hg.block b hs (fun e => by have := (h.own.lt b e.symm).1; omega)
  have G : Gw w0 W' := h.rd.gw.grown hg fun k hk => by have := (h.own.lt k hk).1; omega
  have hR : RdAt w0 W' g s := by
    obtain ⟨A, c, q1, q2⟩ := h.rd.head
    exact ⟨G, h1, A, c, q1.same (far g h2 q1.lt), q2⟩
  have hB : Has W' pb 25 #[.slice none 0 0, v] := h.box.same (far pb h4 h.box.lt)
  have hX : Has W' rb 25 #[.slice none 0 0, .slice none 0 0] := h.res.same (far rb h3 h.res.lt)
  have b := But.set pb W' 1 (.slice (some ⟨g1, 0, none⟩) (N.length + 1) cap)
  refine ⟨hR.but b (fun e => h6 e.symm) h5, b.has (fun e => h7 e.symm) hX, hB.put 1 _, ?_⟩
  rw [List.length_append, List.map_append]
  exact own_keep hown fun k hk hs => b.block k hs (by omega)
/-- Instructions as cells. -/
def iCells (L : List (Int × Int)) : List Value := L.flatMap fun x => [.int .i64 x.1, .int .i64 x.2]
theorem iCells_len (L : List (Int × Int)) : (iCells L).length = L.length * 2 := by
  induction L with
  | nil => rfl
  | cons x L ih => simp only [iCells, List.flatMap_cons, List.length_append, List.length_cons, List.length_nil] at ih ⊢; omega
theorem iCells_at : ∀ {L : List (Int × Int)} {i : Nat} {x : Int × Int}, L[i]? = some x → (iCells L)[i * 2]? = some (.int .i64 x.1) ∧ (iCells L)[i * 2 + 1]? = some (.int .i64 x.2)
  | [], i, x, h => by rw [List.getElem?_nil] at h; cases h
  | y :: L, 0, x, h => by
    simp only [List.getElem?_cons_zero, Option.some.injEq] at h
    subst h
    exact ⟨rfl, rfl⟩
  | y :: L, i + 1, x, h => by
    simp only [List.getElem?_cons_succ] at h
    obtain ⟨h1, h2⟩ := iCells_at h
    have e : ∀ j, (iCells (y :: L))[j + 2]? = (iCells L)[j]? := fun j => rfl
    have e1 : (i + 1) * 2 = i * 2 + 2 := by omega
    rw [e1, e, h1, show i * 2 + 2 + 1 = (i * 2 + 1) + 2 from rfl, e, h2]
    exact ⟨rfl, rfl⟩
theorem row_str {W : World} {B : Nat} {v : Value} {N : List ByteArray} (h : W.ownsRow B 9 1 v N.length (N.map Value.string)) : ∃ A cb, v = .slice A N.length cb ∧ N.length ≤ cb ∧ cb ≤ 9223372036854775807 ∧ StrAt W A N := by
  rcases h.2 with ⟨h0, h1⟩ | ⟨g, cap, cur, h0, h1, h2, h3, h4, _⟩
  · have : N = [] := List.eq_nil_of_length_eq_zero h1
    subst this
    exact ⟨none, 0, h0, Nat.le_refl _, by omega, fun i s hs => by rw [List.getElem?_nil] at hs; cases hs⟩
  · subst h0
    refine ⟨_, cap, rfl, h3, h4, fun i s hs => ⟨g, 0, rfl, lt_of_heap h2, ?_⟩⟩
    have hi := (List.getElem?_eq_some_iff.1 hs).1
    rw [Nat.zero_add, World.ownsRow.cellAt h i (by omega), List.getElem?_map, hs]
    rfl
theorem row_inst {W : World} {B : Nat} {v : Value} {L : List (Int × Int)} (h : W.ownsRow B 41 2 v L.length (iCells L)) : ∃ A ca, v = .slice A L.length ca ∧ L.length ≤ ca ∧ ca ≤ 9223372036854775807 ∧ InstAt W A L := by
  rcases h.2 with ⟨h0, h1⟩ | ⟨g, cap, cur, h0, h1, h2, h3, h4, _⟩
  · have : L = [] := List.eq_nil_of_length_eq_zero h1
    subst this
    exact ⟨none, 0, h0, Nat.le_refl _, by omega, fun i s hs => by rw [List.getElem?_nil] at hs; cases hs⟩
  · subst h0
    refine ⟨_, cap, rfl, h3, h4, fun i x hx => ⟨g, 0, rfl, lt_of_heap h2, ?_, ?_⟩⟩
    all_goals
      have hi := (List.getElem?_eq_some_iff.1 hx).1
      rw [Nat.zero_add]
      rw [World.ownsRow.cellAt h _ (by omega)]
    · exact (iCells_at hx).1
    · exact (iCells_at hx).2
/-- parse's memory while it reads instructions: the row of names lies below B2, that of instructions from there on. -/
structure PI (w0 W : World) (g rb pb B B2 : Nat) (s : Rd) (u v : Value) (N : List ByteArray) (L : List (Int × Int)) : Prop where
  rd : RdAt w0 W g s
  res : Has W rb 25 #[.slice none 0 0, .slice none 0 0]
  box : Has W pb 25 #[u, v]
  own : W.ownsRow B 9 1 v N.length (N.map Value.string)
  top : ∀ k, v.ownBlock = some k → k < B2
  row : W.ownsRow B2 41 2 u L.length (iCells L)
  le : B2 ≤ W.heap.size
theorem PI.start {w0 W : World} {g rb pb B : Nat} {s : Rd} {v : Value} {N : List ByteArray} (h : PN w0 W g rb pb B s v N) : PI w0 W g rb pb B W.heap.size s (.slice none 0 0) v N [] :=
  ⟨h.rd, h.res, h.box, h.own, fun k hk => (h.own.lt k hk).2, ⟨rfl, .inl ⟨rfl, rfl⟩⟩, Nat.le_refl _⟩
theorem PI.but {w0 W W' : World} {g rb pb B B2 : Nat} {s s' : Rd} {u v : Value} {N : List ByteArray} {L : List (Int × Int)} (h : PI w0 W g rb pb B B2 s u v N L) (hr : RdAt w0 W' g s') (b : But g W W') (h1 : rb ≠ g) (h2 : pb ≠ g) (h3 : g < B) (h4 : B ≤ B2) : PI w0 W' g rb pb B B2 s' u v N L :=
  ⟨hr, b.has h1 h.res, b.has h2 h.box, own_keep h.own (fun k hk hs => b.block k hs (by omega)), h.top, own_keep h.row (fun k hk hs => b.block k hs (by omega)), Nat.le_trans h.le b.size⟩
theorem PI.drew {w0 W : World} {g rb pb B B2 : Nat} {s : Rd} {u v : Value} {N : List ByteArray} {L : List (Int × Int)} (h : PI w0 W g rb pb B B2 s u v N L) : PI w0 W.drew g rb pb B B2 s u v N L :=
  ⟨h.rd.on (Gw.refl W).drew, h.res, h.box, h.own, h.top, h.row, h.le⟩
theorem PI.alloc {w0 W : World} {g rb pb B B2 : Nat} {s : Rd} {u v : Value} {N : List ByteArray} {L : List (Int × Int)} (h : PI w0 W g rb pb B B2 s u v N L) (o : Obj) : PI w0 (W.alloc o) g rb pb B B2 s u v N L :=
  ⟨h.rd.on (Gw.alloc W o), h.res.same ((Gw.alloc W o).block _ h.res.lt), h.box.same ((Gw.alloc W o).block _ h.box.lt), h.own.alloc o, h.top, h.row.alloc o, Nat.le_trans h.le (Gw.alloc W o).size⟩
theorem PI.gbox {w0 W W' : World} {g rb pb B B2 : Nat} {s : Rd} {u v : Value} {N : List ByteArray} {L : List (Int × Int)} (h : PI w0 W g rb pb B B2 s u v N L) (hg : W.grownBy W' u.ownBlock) (h4 : pb < B2) : Has W' pb 25 #[u, v] :=
  h.box.same (hg.block pb h.box.lt fun e => by have := (h.row.lt pb e.symm).1; omega)
theorem iCells_snoc (L : List (Int × Int)) (x : Int × Int) : iCells (L ++ [x]) = iCells L ++ [.int .i64 x.1, .int .i64 x.2] := by simp [iCells]
/-- Behind an append to the row of instructions. -/
theorem PI.more {w0 W W' : World} {g rb pb B B2 g1 cap : Nat} {s : Rd} {u v : Value} {N : List ByteArray} {L : List (Int × Int)} {x : Int × Int} (h : PI w0 W g rb pb B B2 s u v N L) (hown : W'.ownsRow B2 41 2 (.slice (some ⟨g1, 0, none⟩) (L.length + 1) cap) (L.length + 1) (iCells L ++ [.int .i64 x.1, .int .i64 x.2]))
    (hg : W.grownBy W' u.ownBlock) (h1 : w0.heap.size ≤ g) (h2 : g < B) (h3 : rb < B) (h4 : pb < B) (h5 : w0.heap.size ≤ pb) (h6 : pb ≠ g) (h7 : pb ≠ rb) (h8 : B ≤ B2) :
    PI w0 (W'.setCell ⟨pb, 0, none⟩ (.slice (some ⟨g1, 0, none⟩) (L.length + 1) cap)) g rb pb B B2 s (.slice (some ⟨g1, 0, none⟩) (L.length + 1) cap) v N (L ++ [x]) := by
  have far : ∀ b, b < B2 → b < W.heap.size → W'.heap[b]? = W.heap[b]? := fun b hb hs => hg.block b hs (fun e => by have := (h.row.lt b e.symm).1; omega)
  have G : Gw w0 W' := h.rd.gw.grown hg fun k hk => by have := (h.row.lt k hk).1; omega
  have hR : RdAt w0 W' g s := by
    obtain ⟨A, c, q1, q2⟩ := h.rd.head
    exact ⟨G, h1, A, c, q1.same (far g (by omega) q1.lt), q2⟩
  have hB : Has W' pb 25 #[u, v] := h.box.same (far pb (by omega) h.box.lt)
  have hX : Has W' rb 25 #[.slice none 0 0, .slice none 0 0] := h.res.same (far rb (by omega) h.res.lt)
  have b := But.set pb W' 0 (.slice (some ⟨g1, 0, none⟩) (L.length + 1) cap)
  have hN : W'.ownsRow B 9 1 v N.length (N.map Value.string) := by
    refine ⟨h.own.1, ?_⟩
    rcases h.own.2 with h0 | ⟨q, cp, cur, e0, e1, e2, e3⟩
    · exact .inl h0
    · exact .inr ⟨q, cp, cur, e0, e1, (far q (h.top q (by rw [e0]; rfl)) (lt_of_heap e2)).trans e2, e3⟩
  refine ⟨hR.but b (fun e => h6 e.symm) h5, b.has (fun e => h7 e.symm) hX, hB.put 0 _, own_keep hN fun k hk hs => b.block k hs (by omega), h.top, ?_, Nat.le_trans h.le (Nat.le_trans hg.size b.size)⟩
  rw [List.length_append, iCells_snoc]
  exact own_keep hown fun k hk hs => b.block k hs (by omega)
/-- parse's result: behind the last store the rows tell the program. -/
theorem PI.pok {w0 W F : World} {g rb pb B B2 ca cb : Nat} {s : Rd} {A C : Option Addr} {N : List ByteArray} {L : List (Int × Int)} (h : PI w0 W g rb pb B B2 s (.slice A L.length ca) (.slice C N.length cb) N L) (b : But rb W F) (h1 : rb < B) (h2 : B ≤ B2) (hr : Raw L N) : POk F A L ca C N cb := by
  have o1 := own_keep (w' := F) h.own (fun k hk hs => b.block k hs (by omega))
  have o2 := own_keep (w' := F) h.row (fun k hk hs => b.block k hs (by omega))
  obtain ⟨A', ca', e1, a1, a2, a3⟩ := row_inst o2
  obtain ⟨C', cb', e2, c1, c2, c3⟩ := row_str o1
  injection e1 with e1 _ e3
  injection e2 with e2 _ e4
  subst e1 e3 e2 e4
  exact ⟨a1, a2, c1, c2, a3, c3, (fun s hs => by have := hr.s s hs; omega), (fun x hx => by have := hr.i x hx; exact ⟨WalkArith.wf_i64 (by omega), WalkArith.wf_i64 (by omega)⟩)⟩
theorem POk.nil (W : World) : POk W none [] 0 none [] 0 :=
  ⟨Nat.le_refl _, by omega, Nat.le_refl _, by omega, (fun i x h => by rw [List.getElem?_nil] at h; cases h), (fun i x h => by rw [List.getElem?_nil] at h; cases h), (fun s h => by cases h), (fun x h => by cases h)⟩
/-- An address in none of the blocks that were there. -/
def Fresh (w0 : World) (A : Option Addr) : Prop := ∀ g off, A = some ⟨g, off, none⟩ → w0.heap.size ≤ g
theorem Fresh.none (w0 : World) : Fresh w0 none := fun g off e => by cases e
theorem POk.but {W W' : World} {A B : Option Addr} {L : List (Int × Int)} {N : List ByteArray} {ca cb k : Nat} (h : POk W A L ca B N cb) (b : But k W W') (hA : ∀ g off, A = some ⟨g, off, Option.none⟩ → g ≠ k) (hB : ∀ g off, B = some ⟨g, off, Option.none⟩ → g ≠ k) : POk W' A L ca B N cb :=
  ⟨h.la, h.ma, h.lb, h.mb, (fun i x hx => by
    obtain ⟨g, off, e, h1, h2, h3⟩ := h.inst i x hx
    have := b.block g h1 (hA g off e)
    exact ⟨g, off, e, Nat.lt_of_lt_of_le h1 b.size, (World.cell?_of_block this).trans h2, (World.cell?_of_block this).trans h3⟩), (fun i s hs => by
    obtain ⟨g, off, e, h1, h2⟩ := h.str i s hs
    have := b.block g h1 (hB g off e)
    exact ⟨g, off, e, Nat.lt_of_lt_of_le h1 b.size, (World.cell?_of_block this).trans h2⟩), h.sz, h.wf⟩
theorem par_no {l : List UInt8} (h : ¬ num ((⟨l, false⟩ : Rd).nx 2) = 22610) : par l = ⟨[], [], false⟩ := by
  unfold par
  simp only [h, if_false]
theorem par_yes {l : List UInt8} (h : num ((⟨l, false⟩ : Rd).nx 2) = 22610) {s1 s2 s3 s4 s5 : Rd} {c d : Nat} {N : List ByteArray} {L : List (Int × Int)} (h1 : s1 = (⟨l, false⟩ : Rd).go 2) (h2 : s2 = s1.go 1) (hc : c = num (s1.nx 1))
    (h3 : rdN c s2 = (N, s3)) (hd : d = num (s3.nx 1)) (h4 : s4 = s3.go 1) (h5 : rdI d s4 = (L, s5)) : par l = ⟨L, N, !s5.sh && s5.l.isEmpty⟩ := by
  subst h1 h2 hc hd h4
  unfold par
  simp only [h, if_true, h3, h5]
set_option maxRecDepth 4000 in
set_option maxHeartbeats 4000000 in
theorem parse_any {w0 : World} {A : Option Addr} {l : List UInt8} {cap : Nat} (hA : ByAt w0 A l) (hc : l.length ≤ cap) (hm : cap ≤ 9223372036854775807) :
    Calls Tryd.prog 21 #[.slice A l.length cap] w0 fun e W' => ∃ C ca B cb, e = .returned (.tuple #[.agg #[.slice C (par l).L.length ca, .slice B (par l).N.length cb], .bool (par l).ok]) ∧ POk W' C (par l).L ca B (par l).N cb ∧ Gw w0 W' ∧ Fresh w0 C ∧ Fresh w0 B := by
  have G0 := Gw.alloc w0 (.cells #[.slice none 0 0, .slice none 0 0] 25)
  have X0 := Has.new w0 25 #[.slice none 0 0, .slice none 0 0]
  obtain ⟨w1, hw1⟩ : ∃ w1, w1 = w0.alloc (.cells #[.slice none 0 0, .slice none 0 0] 25) := ⟨_, rfl⟩
  have hs1 : w1.heap.size = w0.heap.size + 1 := by rw [hw1]; show (w0.heap.push _).size = _; simp
  rw [← hw1] at G0 X0
  have G1 := G0.trans (Gw.alloc w1 (.cells #[.slice A l.length cap, .bool false] 63))
  have X1 := X0.same ((Gw.alloc w1 (.cells #[.slice A l.length cap, .bool false] 63)).block _ X0.lt)
  have R1 : RdAt w0 (w1.alloc (.cells #[.slice A l.length cap, .bool false] 63)) (w0.heap.size + 1) ⟨l, false⟩ := ⟨G1, by omega, A, cap, by rw [← hs1]; exact Has.new w1 _ _, hc, hm, hA⟩
  have C1 : ∀ {W : World} {g : Nat} {s : Rd}, RdAt w0 W g s → Calls Tryd.prog 30 #[.pointer (some ⟨g, 0, none⟩), .int .i64 1] W (NumPost w0 W g 1 s) := fun h => number_any h (n := 1) (by omega)
  have C2 : ∀ {W : World} {g : Nat} {s : Rd}, RdAt w0 W g s → Calls Tryd.prog 30 #[.pointer (some ⟨g, 0, none⟩), .int .i64 2] W (NumPost w0 W g 2 s) := fun h => number_any h (n := 2) (by omega)
  have CM := C2 R1
  clear hA
  have HR1 := Lib.hid R1
  have HX1 := Lib.hid X1
  have HG1 := Lib.hid G1
  clear X0 G0 G1 X1 hs1 R1
  by_cases hmk : num ((⟨l, false⟩ : Rd).nx 2) = 22610
  · obtain ⟨s1, hs1⟩ : ∃ s1, s1 = (⟨l, false⟩ : Rd).go 2 := ⟨_, rfl⟩
    obtain ⟨s2, hs2⟩ : ∃ s2, s2 = s1.go 1 := ⟨_, rfl⟩
    obtain ⟨c, hcc⟩ : ∃ c, c = num (s1.nx 1) := ⟨_, rfl⟩
    obtain ⟨N, s3, h3⟩ : ∃ N s3, rdN c s2 = (N, s3) := ⟨_, _, rfl⟩
    obtain ⟨s4, hs4⟩ : ∃ s4, s4 = s3.go 1 := ⟨_, rfl⟩
    obtain ⟨d, hd⟩ : ∃ d, d = num (s3.nx 1) := ⟨_, rfl⟩
    obtain ⟨L, s5, h5⟩ : ∃ L s5, rdI d s4 = (L, s5) := ⟨_, _, rfl⟩
    have hpar := par_yes hmk hs1 hs2 hcc h3 hd hs4 h5
    have HRaw := Lib.hid (par_raw l)
    rw [hpar] at HRaw
    rw [hpar]
    simp only at HRaw ⊢
    clear hpar
    have cle : c ≤ 255 := by rw [hcc]; exact num1_le s1
    have dle : d ≤ 255 := by rw [hd]; exact num1_le s3
    unfold NumPost at CM
    rw [hmk, ← hs1] at CM
    have CC : ∀ {W : World} {g : Nat}, RdAt w0 W g s1 → Calls Tryd.prog 30 #[.pointer (some ⟨g, 0, none⟩), .int .i64 1] W fun e W' => e = .returned (.int .i64 (c : Nat)) ∧ RdAt w0 W' g s2 ∧ But g W W' := fun h => by
      have := C1 h
      unfold NumPost at this
      rw [← hcc, ← hs2] at this
      exact this
    have CD : ∀ {W : World} {g : Nat}, RdAt w0 W g s3 → Calls Tryd.prog 30 #[.pointer (some ⟨g, 0, none⟩), .int .i64 1] W fun e W' => e = .returned (.int .i64 (d : Nat)) ∧ RdAt w0 W' g s4 ∧ But g W W' := fun h => by
      have := C1 h
      unfold NumPost at this
      rw [← hd, ← hs4] at this
      exact this
    have H3 := Lib.hid h3
    have H5 := Lib.hid h5
    clear h3 h5 hs1 hs2 hcc hs4 hd hmk
    go_enter Tryd.func21, Tryd.ntmps21
    go_upto_region 2 with fail
    rw [← hw1]
    generalize w1.alloc (.cells #[.slice A l.length cap, .bool false] 63) = w2 at *
    clear hw1
    go_upto_region 4 with (go_at_call 30; with_reducible refine CM.mono ?_; rintro e w3 ⟨rfl, R2, B2⟩)
    have hgw3 : w0.heap.size + 1 < w3.heap.size := by obtain ⟨_, _, q, _⟩ := R2.head; exact q.lt
    have HX3 := Lib.hid (B2.has (by omega) HX1.out)
    have CC3 := CC (R2.on (Gw.alloc w3 (.cells #[.slice none 0 0, .slice none 0 0] 25)))
    have HX4 := Lib.hid (HX3.out.same ((Gw.alloc w3 (.cells #[.slice none 0 0, .slice none 0 0] 25)).block _ HX3.out.lt))
    have HP4 := Lib.hid (Has.new w3 25 #[.slice none 0 0, .slice none 0 0])
    clear HR1 HX1 HG1 CM CC C2 HX3 R2 B2
    go_wp2_with (go_at_call 30; with_reducible refine CC3.mono ?_; rintro e w5 ⟨rfl, R5, B5⟩)
    have P0 : Hid (PN w0 w5 (w0.heap.size + 1) w0.heap.size w3.heap.size (w3.heap.size + 1) s2 (.slice none 0 0) []) := ⟨R5, B5.has (by omega) HX4.out, B5.has (by omega) HP4.out, ⟨rfl, .inl ⟨rfl, rfl⟩⟩⟩
    clear HX4 HP4 CC3 R5 B5
    generalize w3.heap.size = pb at *
    go_loopw [18] (fun i wr => ∃ (k : Nat) (v : Value), k ≤ c ∧ i = .int .i64 k ∧ Hid (PN w0 wr (w0.heap.size + 1) w0.heap.size pb (pb + 1) (rdN k s2).2 v (rdN k s2).1)) (fun i _ => c - (intOf i).toNat)
    case atStart => exact ⟨0, _, by omega, rfl, P0.out⟩
    case round =>
      obtain ⟨k, v, hk, rfl, P⟩ := hrel
      by_cases hlt : k < c
      · obtain ⟨Nk, sk, hNk⟩ : ∃ Nk sk, rdN k s2 = (Nk, sk) := ⟨_, _, rfl⟩
        have HNX := Lib.hid (show rdN (k + 1) s2 = (Nk ++ [(stN sk).1], (stN sk).2) by simp only [rdN, hNk])
        have HNL := Lib.hid (show Nk.length = k by have := rdN_len k s2; rw [hNk] at this; exact this)
        rw [hNk] at P
        simp only at P
        clear hNk
        have CN := C1 P.out.rd
        unfold NumPost at CN
        have ale := num1_le sk
        have HST := Lib.hid (show stN sk = (⟨((sk.go 1).nx (num (sk.nx 1))).toArray⟩, (sk.go 1).go (num (sk.nx 1))) from rfl)
        rw [HST.out] at HNX
        clear HST
        generalize num (sk.nx 1) = a at *
        generalize sk.go 1 = sk1 at *
        go_upto_region 8 with (go_at_call 30; with_reducible refine CN.mono ?_; rintro e w7 ⟨rfl, R7, B7⟩)
        have P7 := Lib.hid (P.out.but R7 B7 (by omega) (by omega) (by omega))
        clear P R7 B7 CN
        have ND := next_any P7.out.drew.rd (n := a) (by omega)
        unfold NxPost at ND
        obtain ⟨t, ht⟩ : ∃ t, t = (⟨(sk1.nx a).toArray⟩ : ByteArray) := ⟨_, rfl⟩
        rw [← ht] at HNX
        have HCV : ∀ {W : World} {A : Option Addr} {cap : Nat}, ByAt w0 A (sk1.nx a) → Gw w0 W → (convert 28 9 (.slice A (sk1.nx a).length cap)).run Tryd.prog W = .ok (.string t) W := fun h G => by rw [ht]; exact conv_by h G
        clear ht
        generalize sk1.nx a = y at *
        generalize sk1.go a = sk2 at *
        obtain ⟨i0, hi1, hi2, hi3, hi4⟩ := info_str
        have HI := Lib.hid (show _ ∧ _ ∧ _ ∧ _ from ⟨hi1, hi2, hi3, hi4⟩)
        clear hi1 hi2 hi3 hi4
        have c1 : w7.cell? ⟨pb, 1, none⟩ = some v := P7.out.box.cell 1
        have hsz : Nk.length ≤ 255 := by rw [HNL.out]; omega
        go_region_law (first | (rw [if_pos (by rfl)]; go_simp; go_at_call 31; with_reducible refine ND.mono ?_; rintro e w8 ⟨A8, cap8, rfl, q1, q2, q3, q4, q5⟩; have P8 := Lib.hid (P7.out.drew.but q4 q5 (by omega) (by omega) (by omega)); have c8 := (box1 P8.out.box).1; have v8 := HCV q3 q4.gw (cap := cap8); have PA := Lib.hid (P8.out.alloc (.cells #[.string t] 9)); have c8a := (box1 PA.out.box).1) | (refine step_append_lies _ (by rfl) _ _ _ (by rfl) (pb + 1) 9 i0 _ 1 16 Tryd.underlying23 HI.out.1 HI.out.2.1 HI.out.2.2.1 HI.out.2.2.2 rfl (by omega) v Nk.length (Nk.map Value.string) (by rfl) PA.out.own ⟨w8.heap.size, 0, none⟩ 1 1 [.string t] (by rfl) (by rfl) (World.news_of_block (cs := #[.string t]) (t := 9) (fr := (0, 0)) (heap_alloc_new w8 _)) (by simp [Value.oneCell']) (by omega) (by unfold maxLen; omega) (by omega) (by have := P8.out.box.lt; simp; omega) (w8.heap.size + 1) (by simp) ?_; intro g1 cp9 w9 hown9 hgrow9 hat9 hlt9; have hB9 := PA.out.gbox hgrow9 (by omega); have c9 := (box1 hB9).1; have f9 := (box1 hB9).2))
        all_goals
          have PM := Lib.hid (PA.out.more hown9 hgrow9 (by omega) (by omega) (by omega) (by omega) (by omega) (by omega) (by omega))
          clear hown9 hgrow9 hat9 hlt9 hB9 q1 q2 q3 q4 q5
          go_wp2_with fail
          refine ⟨⟨k + 1, _, by omega, by go_num, by rw [HNX.out]; exact PM.out⟩, ?_⟩
          simp [intOf]
          omega
      · obtain rfl : c = k := by omega
        rw [H3.out] at P
        simp only at P
        have CD5 := CD P.out.rd
        have hs5 : pb + 1 ≤ wr.heap.size := P.out.box.lt
        clear CD H3 P0
        go_wp2_with (go_at_call 30; with_reducible refine CD5.mono ?_; rintro e w6 ⟨rfl, R6, B6⟩)
        have P6 := Lib.hid (PI.start (P.out.but R6 B6 (by omega) (by omega) (by omega)))
        have hs6 : pb + 1 ≤ w6.heap.size := P6.out.box.lt
        clear P R6 B6 CD5 hs5
        generalize w6.heap.size = B2 at *
        obtain ⟨wz, hwz⟩ : ∃ wz, wz = wr := ⟨_, rfl⟩
        subst hwz
        go_loopw [34] (fun i wr => ∃ (k : Nat) (u : Value), k ≤ d ∧ i = .int .i64 k ∧ Hid (PI w0 wr (w0.heap.size + 1) w0.heap.size pb (pb + 1) B2 (rdI k s4).2 u v N (rdI k s4).1)) (fun i _ => d - (intOf i).toNat)
        case atStart => exact ⟨0, _, by omega, rfl, P6.out⟩
        case round =>
          obtain ⟨k, u, hk, rfl, P⟩ := hrel
          by_cases hlt : k < d
          · obtain ⟨Lk, sk, hLk⟩ : ∃ Lk sk, rdI k s4 = (Lk, sk) := ⟨_, _, rfl⟩
            have HNX := Lib.hid (show rdI (k + 1) s4 = (Lk ++ [(((num (sk.nx 1) : Nat) : Int), ((num ((sk.go 1).nx 2) : Nat) : Int))], (sk.go 1).go 2) by simp only [rdI, hLk]; rfl)
            have HNL := Lib.hid (show Lk.length = k by have := rdI_len k s4; rw [hLk] at this; exact this)
            rw [hLk] at P
            simp only at P
            clear hLk
            have CN := C1 P.out.rd
            unfold NumPost at CN
            have CM : ∀ {W : World} {g : Nat}, RdAt w0 W g (sk.go 1) → Calls Tryd.prog 30 #[.pointer (some ⟨g, 0, none⟩), .int .i64 2] W (fun e W' => e = .returned (.int .i64 (num ((sk.go 1).nx 2) : Nat)) ∧ RdAt w0 W' g ((sk.go 1).go 2) ∧ But g W W') := fun h => number_any h (n := 2) (by omega)
            generalize num (sk.nx 1) = a at *
            generalize num ((sk.go 1).nx 2) = b at *
            generalize (sk.go 1).go 2 = sk2 at *
            generalize sk.go 1 = sk1 at *
            go_upto_region 13 with (go_at_call 30; with_reducible refine CN.mono ?_; rintro e w7 ⟨rfl, R7, B7⟩)
            have P7 := Lib.hid (P.out.but R7 B7 (by omega) (by omega) (by omega) hs6)
            clear P R7 B7 CN
            have CM7 := CM P7.out.rd
            clear CM
            go_upto_region 14 with (go_at_call 30; with_reducible refine CM7.mono ?_; rintro e w8 ⟨rfl, R8, B8⟩)
            have P8 := Lib.hid (P7.out.but R8 B8 (by omega) (by omega) (by omega) hs6)
            clear P7 R8 B8 CM7
            obtain ⟨i0, hi1, hi2, hi3, hi4⟩ := info_inst
            have HI := Lib.hid (show _ ∧ _ ∧ _ ∧ _ from ⟨hi1, hi2, hi3, hi4⟩)
            clear hi1 hi2 hi3 hi4
            have c8 := (box0 P8.out.box).1
            have hsz : Lk.length ≤ 255 := by rw [HNL.out]; omega
            have PA := Lib.hid (P8.out.alloc (.cells #[.int .i64 a, .int .i64 b] 41))
            go_wp2_with (at_builtin; refine wpList_append_lies _ rfl _ _ _ rfl B2 41 i0 _ 2 16 Tryd.underlying22 HI.out.1 HI.out.2.1 HI.out.2.2.1 HI.out.2.2.2 rfl (by omega) u Lk.length (iCells Lk) rfl PA.out.row ⟨w8.heap.size, 0, none⟩ 1 1 [.int .i64 a, .int .i64 b] rfl rfl (World.news_of_block (cs := #[.int .i64 a, .int .i64 b]) (t := 41) (fr := (0, 0)) (heap_alloc_new w8 _)) (by simp [Value.oneCell']) (by omega) (by unfold maxLen; omega) (by omega) (by have := P8.out.le; simp; omega) (w8.heap.size + 1) (by simp) ?_; intro g1 cp9 w9 hown9 hgrow9 hat9 hlt9; have hB9 := PA.out.gbox hgrow9 (by omega); have c9 := (box0 hB9).1; have f9 := (box0 hB9).2)
            have PM := Lib.hid (PA.out.more (x := ((a : Int), (b : Int))) hown9 hgrow9 (by omega) (by omega) (by omega) (by omega) (by omega) (by omega) (by omega) hs6)
            clear hown9 hgrow9 hat9 hlt9 hB9
            exact ⟨⟨k + 1, _, by omega, by go_num, by rw [HNX.out]; exact PM.out⟩, by simp [intOf]; omega⟩
          · obtain rfl : d = k := by omega
            rw [H5.out] at P
            simp only at P
            obtain ⟨l5, sh5⟩ := s5
            obtain ⟨A9, cap9, hh, _⟩ := P.out.rd.head
            obtain ⟨Cu, cu, rfl, lu, mu, HU⟩ := row_inst P.out.row
            obtain ⟨Cv, cv, rfl, lv, mv, HV⟩ := row_str P.out.own
            clear lu mu lv mv HU HV
            have b0 := box0 P.out.box
            have b1 := box1 P.out.box
            have r0 := box0 P.out.res
            have r1 := box1 P.out.res
            have x0 := box0 hh
            have x1 := box1 hh
            obtain ⟨b0, _⟩ := b0
            obtain ⟨b1, _⟩ := b1
            obtain ⟨r0, r0f⟩ := r0
            obtain ⟨r1, r1f⟩ := r1
            obtain ⟨x0, _⟩ := x0
            obtain ⟨x1, _⟩ := x1
            simp only at x0 x1
            have PF := P.out
            have BF := (But.set w0.heap.size wr 0 (.slice Cu L.length cu)).trans (But.set w0.heap.size _ 1 (.slice Cv N.length cv))
            have HPO := Lib.hid ((PF.pok BF (by omega) hs6 HRaw.out).gw (Gw.refl _).drew)
            have HGF := Lib.hid ((BF.gw PF.rd.gw (Nat.le_refl _)).trans (Gw.refl _).drew)
            have HFC : Hid (Fresh w0 Cu) := fun g off e => by subst e; have := (PF.row.lt g rfl).1; omega
            have HFD : Hid (Fresh w0 Cv) := fun g off e => by subst e; have := (PF.own.lt g rfl).1; omega
            have HHF := Lib.hid ((PF.res.put 0 (.slice Cu L.length cu)).put 1 (.slice Cv N.length cv))
            clear hh H5 C1 P P6 PF BF
            cases sh5
            · cases l5 with
              | nil =>
                simp only [List.length_nil] at x0
                go_wp2_with fail
                go_region
                go_wp2_with fail
                refine bodyPost_ret (results_row2 rfl _ _ w0.heap.size _ _ _ _ rfl HHF.out Tryd.underlying25 (by kernel_rfl)) rfl ?_
                exact ⟨_, _, _, _, rfl, HPO.out, HGF.out, HFC.out, HFD.out⟩
              | cons z r =>
                have hne : (((z :: r).length : Int) == 0) = false := by rw [beq_eq_false_iff_ne]; simp; omega
                generalize (z :: r).length = n5 at *
                go_wp2_with fail
                go_region
                go_wp2_with fail
                refine bodyPost_ret (results_row2 rfl _ _ w0.heap.size _ _ _ _ rfl HHF.out Tryd.underlying25 (by kernel_rfl)) rfl ?_
                exact ⟨_, _, _, _, rfl, HPO.out, HGF.out, HFC.out, HFD.out⟩
            · go_wp2_with fail
              go_region
              go_wp2_with fail
              refine bodyPost_ret (results_row2 rfl _ _ w0.heap.size _ _ _ _ rfl HHF.out Tryd.underlying25 (by kernel_rfl)) rfl ?_
              exact ⟨_, _, _, _, rfl, HPO.out, HGF.out, HFC.out, HFD.out⟩
  · have hpar := par_no hmk
    rw [hpar]
    simp only
    have hne : (((num ((⟨l, false⟩ : Rd).nx 2) : Nat) : Int) == 22610) = false := by rw [beq_eq_false_iff_ne]; omega
    unfold NumPost at CM
    generalize num ((⟨l, false⟩ : Rd).nx 2) = q at *
    clear hpar hmk C1 C2
    go_enter Tryd.func21, Tryd.ntmps21
    go_upto_region 2 with fail
    rw [← hw1]
    generalize w1.alloc (.cells #[.slice A l.length cap, .bool false] 63) = w2 at *
    clear hw1
    go_upto_region 3 with (go_at_call 30; with_reducible refine CM.mono ?_; rintro e w3 ⟨rfl, R2, B2⟩; have HX3 := Lib.hid (B2.has (by omega) HX1.out); have r0 := box0 HX3.out; have r1 := box1 HX3.out; obtain ⟨r0, r0f⟩ := r0; obtain ⟨r1, r1f⟩ := r1)
    go_wp2_with fail
    have BF := (But.set w0.heap.size w3 0 (.slice none 0 0)).trans (But.set w0.heap.size _ 1 (.slice none 0 0))
    refine bodyPost_ret (results_row2 rfl _ _ w0.heap.size _ _ _ _ rfl ((HX3.out.put 0 (.slice none 0 0)).put 1 (.slice none 0 0)) Tryd.underlying25 (by kernel_rfl)) rfl ?_
    exact ⟨none, 0, none, 0, rfl, POk.nil _, BF.gw R2.gw (Nat.le_refl _), Fresh.none _, Fresh.none _⟩
end Go.Proofs.YtcecmkelefhaaaaDoor
