/-
  Parts of the proof, joined: FileFd, FileFe, FileFg.
-/
import Derived.Test.YtckoapfmfpmdgaaMh21
import Derived.Laws.OwnMore

namespace Go.Proofs.Ytckoapfmfpmdgaa
set_option linter.unusedVariables false
set_option linter.unusedSimpArgs false

def d8 : List UInt8 := [0, 1, 2, 3, 4, 5, 6, 7]
/-- One file of eight bytes, its offsets, the descriptors. -/
def fsF (at_ : List Nat) (fd : List Int) : Fs := ⟨tw1, [d8], at_.map (fun x => (0, x)), fd⟩
structure FdI (at_ : List Nat) (fd : List Int) : Prop where
  len : fd.length = 4
  ix : ∀ (i : Nat) k, fd[i]? = some k → -1 ≤ k ∧ k < at_.length
  le : ∀ x ∈ at_, x ≤ 8
theorem FdI.nil : FdI [] [-1, -1, -1, -1] := ⟨rfl, fun i k h => by
  have : k = -1 := by
    have := List.mem_of_getElem? h
    simp at this
    exact this
  subst this
  exact ⟨Int.le_refl _, by decide⟩, fun x h => by cases h⟩
section
variable {at_ : List Nat} {fd : List Int}
theorem FdI.set (H : FdI at_ fd) {j : Nat} {k : Int} (hk : -1 ≤ k ∧ k < at_.length) : FdI at_ (fd.set j k) :=
  ⟨by rw [List.length_set]; exact H.len, fun i x h => by
    rw [List.getElem?_set] at h
    split at h
    · split at h
      · cases h; exact hk
      · cases h
    · exact H.ix i x h, H.le⟩
theorem FdI.more (H : FdI at_ fd) : FdI (at_ ++ [0]) fd := ⟨H.len, fun i k h => by have := H.ix i k h; simp; omega, fun x hx => by
  rcases List.mem_append.1 hx with h | h
  · exact H.le x h
  · rw [List.mem_singleton.1 h]; omega⟩
theorem FdI.at_set (H : FdI at_ fd) {i x : Nat} (hx : x ≤ 8) : FdI (at_.set i x) fd := ⟨H.len, fun j k h => by rw [List.length_set]; exact H.ix j k h, fun y hy => by
  rcases List.mem_or_eq_of_mem_set hy with h | h
  · exact H.le y h
  · rw [h]; exact hx⟩
theorem fd_of {k : Nat} {c : Int} (hc : fd[k]? = some c) : ofI (fsF at_ fd) k = if c < 0 then none else some c.toNat := by
  unfold ofI
  show (match fd[k]? with | none => none | some k => if k < 0 then none else some k.toNat) = _
  rw [hc]
theorem fd_full (h : freeI fd < 0) : openF (fsF at_ fd) [97] = (65304, fsF at_ fd) := by
  have e1 : nameB [97] = true := by decide +kernel
  have e3 : abv tw1.l [97] = 0 := by decide +kernel
  unfold openF
  rw [if_pos e1]
  show (if (findT tw1.l [97]).2.2 = 0 ∧ (findT tw1.l [97]).2.1 = true then _ else if abv tw1.l [97] ≠ 0 then _ else if freeI fd < 0 then _ else _) = _
  simp only [wr_find, e3, if_pos h]
  rfl
theorem fd_open (h : ¬ freeI fd < 0) : openF (fsF at_ fd) [97] = (freeI fd, fsF (at_ ++ [0]) (fd.set (freeI fd).toNat at_.length)) := by
  have e1 : nameB [97] = true := by decide +kernel
  have e3 : abv tw1.l [97] = 0 := by decide +kernel
  unfold openF
  rw [if_pos e1]
  show (if (findT tw1.l [97]).2.2 = 0 ∧ (findT tw1.l [97]).2.1 = true then _ else if abv tw1.l [97] ≠ 0 then _ else if freeI fd < 0 then _ else if (findT tw1.l [97]).2.2 = 0 then _ else _) = _
  simp only [wr_find, e3, if_neg h]
  unfold fsF
  simp [wr_find]
theorem fd_bad {k : Nat} {c : Int} (hc : fd[k]? = some c) (h : c < 0) : twinF (fsF at_ fd) k = (65289, fsF at_ fd) ∧ closeF (fsF at_ fd) k = (65289, fsF at_ fd) ∧ readF (fsF at_ fd) k 1 = (([], 65289), fsF at_ fd) := by
  have e := fd_of (at_ := at_) hc
  rw [if_pos h] at e
  unfold twinF closeF readF
  rw [e]
  exact ⟨rfl, rfl, rfl⟩
theorem fd_twin_full {k : Nat} {c : Int} (hc : fd[k]? = some c) (h : ¬ c < 0) (hf : freeI fd < 0) : twinF (fsF at_ fd) k = (65304, fsF at_ fd) := by
  have e := fd_of (at_ := at_) hc
  rw [if_neg h] at e
  unfold twinF
  rw [e]
  show (if freeI fd < 0 then _ else _) = _
  rw [if_pos hf]
theorem fd_twin {k : Nat} {c : Int} (hc : fd[k]? = some c) (h : ¬ c < 0) (hf : ¬ freeI fd < 0) : twinF (fsF at_ fd) k = (freeI fd, fsF at_ (fd.set (freeI fd).toNat c)) := by
  have e := fd_of (at_ := at_) hc
  rw [if_neg h] at e
  unfold twinF
  rw [e]
  show (if freeI fd < 0 then _ else (freeI fd, Fs.mk tw1 [d8] (at_.map (fun x => (0, x))) (fd.set (freeI fd).toNat ((c.toNat : Nat) : Int)))) = _
  rw [if_neg hf, Int.toNat_of_nonneg (by omega)]
  rfl
theorem fd_close {k : Nat} {c : Int} (hc : fd[k]? = some c) (h : ¬ c < 0) : closeF (fsF at_ fd) k = (0, fsF at_ (fd.set k (-1))) := by
  have e := fd_of (at_ := at_) hc
  rw [if_neg h] at e
  unfold closeF
  rw [e]
  rfl
theorem fd_at {i o : Nat} (h : at_[i]? = some o) : filI (fsF at_ fd) i = 0 ∧ offI (fsF at_ fd) i = o ∧ datI (fsF at_ fd) i = d8 := by
  have e : (fsF at_ fd).o[i]? = some (0, o) := by show (at_.map _)[i]? = _; rw [List.getElem?_map, h]; rfl
  refine ⟨by unfold filI; rw [e]; rfl, by unfold offI; rw [e]; rfl, by unfold datI filI; rw [e]; rfl⟩
theorem fd_read {k o : Nat} {c : Int} (hc : fd[k]? = some c) (h : ¬ c < 0) (ho : at_[c.toNat]? = some o) (h8 : o < 8) : readF (fsF at_ fd) k 1 = (([UInt8.ofNat o], 1), fsF (at_.set c.toNat (o + 1)) fd) := by
  have e := fd_of (at_ := at_) hc
  rw [if_neg h] at e
  obtain ⟨e1, e2, e3⟩ := fd_at (fd := fd) ho
  have em : manyR (fsF at_ fd) c.toNat 1 = 1 := by unfold manyR; rw [e2, e3]; show min 1 (8 - o) = 1; omega
  unfold readF
  rw [e]
  simp only [em, e1, e2, e3]
  have e4 : (d8.drop o).take 1 = [UInt8.ofNat o] := by
    have : ∀ o : Fin 8, (d8.drop o.val).take 1 = [UInt8.ofNat o.val] := by decide +kernel
    exact this ⟨o, h8⟩
  rw [e4, if_neg (by decide)]
  unfold fsF
  simp [List.map_set]
theorem fd_end {k o : Nat} {c : Int} (hc : fd[k]? = some c) (h : ¬ c < 0) (ho : at_[c.toNat]? = some o) (h8 : 8 ≤ o) : readF (fsF at_ fd) k 1 = (([], 0), fsF at_ fd) := by
  have e := fd_of (at_ := at_) hc
  rw [if_neg h] at e
  obtain ⟨e1, e2, e3⟩ := fd_at (fd := fd) ho
  have em : manyR (fsF at_ fd) c.toNat 1 = 0 := by unfold manyR; rw [e2, e3]; show min 1 (8 - o) = 0; omega
  unfold readF
  rw [e]
  simp only [em, if_true]
end
/-- The least that is free, from n on. -/
def frI (fd : List Int) (n : Nat) : Int := match (fd.drop n).findIdx? (fun k => decide (k < 0)) with | none => -1 | some i => (n : Int) + i
theorem frI_end {fd : List Int} (h : fd.length = 4) : frI fd 4 = -1 := by
  unfold frI
  rw [List.drop_of_length_le (by omega)]
  rfl
theorem frI_zero (fd : List Int) : frI fd 0 = freeI fd := by
  unfold frI freeI
  rw [List.drop_zero]
  cases fd.findIdx? (fun k => decide (k < 0)) <;> simp
theorem frI_step {fd : List Int} {n : Nat} {k : Int} (h : fd[n]? = some k) : frI fd n = if k < 0 then (n : Int) else frI fd (n + 1) := by
  obtain ⟨hn, he⟩ := List.getElem?_eq_some_iff.1 h
  unfold frI
  rw [List.drop_eq_getElem_cons hn, he, List.findIdx?_cons]
  by_cases hk : k < 0
  · simp [hk]
  · simp only [hk, decide_false, if_false]
    cases (fd.drop (n + 1)).findIdx? (fun k => decide (k < 0)) with
    | none => rfl
    | some i => simp; omega
end Go.Proofs.Ytckoapfmfpmdgaa

namespace Go.Proofs.Ytckoapfmfpmdgaa
open Go.ChangeShapes Go.WideShapes Go.ChangeAt Go.RowKit Go.Joins
set_option linter.unusedVariables false
set_option linter.unusedSimpArgs false

def fdC (fd : List Int) : Array Value := (fd.map (Value.int .i64)).toArray
theorem fdC_at {fd : List Int} {j : Nat} {k : Int} (h : fd[j]? = some k) : (fdC fd)[j]? = some (.int .i64 k) := by unfold fdC; simp [h]
theorem fdC_set (fd : List Int) (j : Nat) (k : Int) : (fdC fd).setIfInBounds j (.int .i64 k) = fdC (fd.set j k) := by unfold fdC; simp [List.map_set]
def atV (l : List Nat) : List Value := l.map fun (x : Nat) => Value.int .i64 (x : Int)
theorem atV_at {l : List Nat} {j x : Nat} (h : l[j]? = some x) : (atV l)[j]? = some (.int .i64 (x : Int)) := by simp [atV, h]
structure FdS (T : FP) (W w : World) (a : Addr) (s : Fs) (av : Value) (fb : Nat) (at_ : List Nat) (fd : List Int) : Prop where
  gw : Gw W w
  hf : Has w fb 3 (fdC fd)
  hb : W.heap.size ≤ fb
  row : w.ownsRow W.heap.size 3 1 av at_.length (atV at_)
  ne : av.ownBlock ≠ some fb
  ex : ∃ K : Nat → Prop, Fx T K w (.pointer (some a)) s ∧ (∀ x, x < W.heap.size → K x) ∧ (∀ k, av.ownBlock = some k → K k) ∧ K fb
section
variable {T : FP} (C : FilesC T) {W w w' : World} {a : Addr} {s s' : Fs} {av : Value} {fb : Nat} {at_ : List Nat} {fd : List Int} (H : FdS T W w a s av fb at_ fd)
include H
theorem FdS.cell {j : Nat} {k : Int} (h : fd[j]? = some k) : w.cell? ⟨fb, j, none⟩ = some (.int .i64 k) := (H.hf.cell j).trans (fdC_at h)
theorem FdS.free (j : Nat) : w.frozen? ⟨fb, j, none⟩ = false := H.hf.free j
theorem FdS.form : ∃ X cap, av = .slice X at_.length cap := row_form H.row
/-- The offset at a place. -/
theorem FdS.off {X : Option Addr} {n cap j x : Nat} (hv : av = .slice X n cap) (h : at_[j]? = some x) : ∃ g, X = some ⟨g, 0, none⟩ ∧ n = at_.length ∧ w.cell? ⟨g, j, none⟩ = some (.int .i64 (x : Int)) ∧ w.frozen? ⟨g, j, none⟩ = false := by
  have hj := (List.getElem?_eq_some_iff.1 h).1
  rcases H.row.2 with ⟨h0, h1⟩ | ⟨g, c, cur, h0, h1, h2, h3, h4, h5, h6⟩
  · omega
  · rw [h0] at hv
    injection hv with e1 e2 e3
    have hr := H.row
    rw [h0] at hr
    have hc := hr.cellAt j (by omega)
    have hz := hr.frozenAt j
    have hx := atV_at h
    refine ⟨g, e1.symm, e2.symm, ?_, hz⟩
    rw [hc, ← hx]
theorem FdS.next {K : Nat → Prop} (h1 : ∀ x, x < W.heap.size → K x) (h2 : ∀ k, av.ownBlock = some k → K k) (h3 : K fb) (M : Fx T K w' (.pointer (some a)) s') (S : Sm K w w') : FdS T W w' a s' av fb at_ fd :=
  ⟨gw_sm H.gw (S.less h1), H.hf.same (S.block fb h3), H.hb, own_same H.row (fun b hb => S.block b (h2 b hb)), H.ne, K, M, h1, h2, h3⟩
include C
theorem FdS.fdput (j : Nat) (k : Int) : FdS T W (w.setCell ⟨fb, j, none⟩ (.int .i64 k)) a s av fb at_ (fd.set j k) := by
  obtain ⟨K, h1, h2, h3, h4⟩ := H.ex
  refine ⟨(But.set fb w j _).gw H.gw H.hb, by rw [← fdC_set]; exact H.hf.put j _, H.hb, own_same H.row (fun b hb => set_other (p := ⟨fb, j, none⟩) (fun e => H.ne (by rw [hb, show b = fb from e]))), H.ne, K, h1.put C h4 j _, h2, h3, h4⟩
theorem FdS.atput {g n cap : Nat} (hv : av = .slice (some ⟨g, 0, none⟩) n cap) (j x : Nat) : FdS T W (w.setCell ⟨g, j, none⟩ (.int .i64 (x : Int))) a s av fb (at_.set j x) fd := by
  obtain ⟨K, h1, h2, h3, h4⟩ := H.ex
  have hg : av.ownBlock = some g := by rw [hv]; rfl
  have hgb : W.heap.size ≤ g := (row_lt H.row hg).1
  have hne : fb ≠ g := fun e => H.ne (by rw [hg, e])
  have hn : n = at_.length := by
    rcases H.row.2 with ⟨h0, h1⟩ | ⟨g', c, cur, h0, _⟩
    · rw [hv] at h0; injection h0 with e1; cases e1
    · rw [hv] at h0; injection h0
  subst hn
  have hr := H.row
  rw [hv] at hr
  have hs := hr.stored j (.int .i64 (x : Int))
  refine ⟨(But.set g w j _).gw H.gw hgb, H.hf.same (set_other (p := ⟨g, j, none⟩) hne), H.hb, ?_, H.ne, K, h1.put C (h3 g hg) j _, h2, h3, h4⟩
  rw [hv, List.length_set, show atV (at_.set j x) = (atV at_).set j (.int .i64 (x : Int)) by simp [atV, List.map_set]]
  exact hs.1
theorem FdS.app {w3 : World} {v3 : Value} {x : Nat} (o : Obj) (own : w3.ownsRow W.heap.size 3 1 v3 (at_.length + 1) (atV at_ ++ [.int .i64 (x : Int)])) (gr : (w.alloc o).grownBy w3 av.ownBlock) (at' : v3.ownBlock = av.ownBlock ∨ v3.ownBlock = some (w.alloc o).heap.size) :
    FdS T W w3 a s v3 fb (at_ ++ [x]) fd := by
  obtain ⟨K, h1, h2, h3, h4⟩ := H.ex
  have GA := Gw.alloc w o
  have hfl : fb < w.heap.size := H.hf.lt
  have hsz : (w.alloc o).heap.size = w.heap.size + 1 := size_alloc w o
  refine ⟨⟨gr.os.trans (H.gw.trans GA).os, rfl, gr.output.trans (H.gw.trans GA).output, Nat.le_trans (H.gw.trans GA).size gr.size, fun k hk => (gr.block k (Nat.lt_of_lt_of_le hk (H.gw.trans GA).size) (fun e => ?_)).trans ((H.gw.trans GA).block k hk)⟩, (H.hf.on GA).same (gr.block fb (by omega) (fun e => H.ne e.symm)), H.hb, ?_, ?_, fun k => K k ∨ v3.ownBlock = some k, ?_, fun x hx => .inl (h2 x hx), fun k hk => .inr hk, .inl h4⟩
  · have := (row_lt H.row e.symm).1
    omega
  · rw [List.length_append, show atV (at_ ++ [x]) = atV at_ ++ [.int .i64 (x : Int)] by simp [atV]]
    exact own
  · rcases at' with q | q
    · rw [q]; exact H.ne
    · rw [q, hsz]
      intro e
      have := Option.some.inj e
      omega
  · refine (h1.on C GA).turned C gr (fun k hk => h3 k hk) (fun k hk => ?_)
    rcases hk with hk | hk
    · exact .inl hk
    · rcases at' with q | q
      · exact .inl (h3 k (by rw [← q]; exact hk))
      · rw [q] at hk
        have := (row_lt own (by rw [q])).2
        have := Option.some.inj hk
        exact .inr ⟨by omega, by omega⟩
end
end Go.Proofs.Ytckoapfmfpmdgaa

namespace Go.Proofs.Ytckoapfmfpmdgaa
open Go.ChangeShapes Go.WideShapes Go.ChangeAt Go.RowKit Go.Joins
set_option linter.unusedVariables false
set_option linter.unusedSimpArgs false

set_option maxRecDepth 100000 in
theorem info_i64 : ∃ i0, Try.prog.info? 3 = some i0 ∧ i0.zero = some (.int .i64 0) ∧ i0.size = 1 ∧ i0.bytes = 8 := ⟨_, rfl, rfl, rfl, rfl⟩
theorem wrap_i64 {n : Nat} (h : n < 1000) : IntKind.i64.wrap (n : Int) = n := by
  simp only [IntKind.wrap, IntKind.bits, IntKind.signed]
  simp
  omega
theorem wrap64_n {n : Nat} (h : n < 2000) : wrap64 (n : Int) = n := by
  unfold wrap64
  omega
theorem and3 (z : Nat) (h : z ≤ 255) : bits .and .u8 (z : Int) 3 = ((z % 4 : Nat) : Int) := by
  have : ∀ z : Fin 256, bits .and .u8 (z.val : Int) 3 = ((z.val % 4 : Nat) : Int) := by decide +kernel
  exact this ⟨z, by omega⟩
theorem set_self {α : Type} {l : List α} {i : Nat} {a : α} (h : l[i]? = some a) : l.set i a = l := by
  obtain ⟨hi, he⟩ := List.getElem?_eq_some_iff.1 h
  subst he
  exact List.set_getElem_self hi
theorem freeI_neg {fd : List Int} (h : freeI fd < 0) : freeI fd = -1 := by
  unfold freeI at h ⊢
  cases hk : fd.findIdx? (fun k => decide (k < 0)) with
  | none => rfl
  | some i => rw [hk] at h; simp at h; omega
theorem few_fs {at_ : List Nat} {fd : List Int} (h : at_.length ≤ 1000) : Few (fsF at_ fd) := ⟨by show tw1.nx ≤ _; decide, by show (at_.map _).length ≤ _; rw [List.length_map]; omega⟩
abbrev d8C : Array Value := #[.int .u8 0, .int .u8 1, .int .u8 2, .int .u8 3, .int .u8 4, .int .u8 5, .int .u8 6, .int .u8 7]
theorem fds_start {T : FP} (C : FilesC T) {w : World} : Calls Try.prog 30 #[.slice (some ⟨w.heap.size, 0, none⟩) 1 1, .slice (some ⟨w.heap.size + 1 + 1, 0, none⟩) 1 1] (((w.alloc (.cells eaC 44)).alloc (.cells d8C 5)).alloc (.cells #[.slice (some ⟨w.heap.size + 1, 0, none⟩) 8 8] 52)) fun e w' =>
    ∃ a, e = .returned (.tuple #[.pointer (some a), .int .i64 0]) ∧ Fx T (fun k => k < w.heap.size) w' (.pointer (some a)) (fsF [] [-1, -1, -1, -1]) ∧ Gw w w' := by
  have G1 := Gw.alloc w (.cells eaC 44)
  have G2 := Gw.alloc (w.alloc (.cells eaC 44)) (.cells d8C 5)
  have G3 := Gw.alloc ((w.alloc (.cells eaC 44)).alloc (.cells d8C 5)) (.cells #[.slice (some ⟨w.heap.size + 1, 0, none⟩) 8 8] 52)
  have hx := ((ent_row (es := ew) (Has.new w 44 eaC) (by rfl)).on G2).on G3
  have hb : BtA _ _ _ := bta_new (w.alloc (.cells eaC 44)) d8 (by decide)
  rw [size_alloc] at hb
  have hb' := hb.on G3
  have hy := dat_row (xs := [.slice (some ⟨w.heap.size + 1, 0, none⟩) 8 8]) (ds := [d8]) (Has.new ((w.alloc (.cells eaC 44)).alloc (.cells d8C 5)) 52 _) rfl (fun i x l h1 h2 => by
    match i, h1, h2 with
    | 0, h1, h2 => cases h1; cases h2; exact hb'
    | i + 1, h1, h2 => simp at h1)
  rw [size_alloc, size_alloc] at hy
  refine (x_new C hx hy (ent_sm (by decide +kernel)) (by decide) (by show 1 ≤ _; decide) (wr_new (b := d8) (by decide))).mono fun e w' ⟨a, h1, h2, h3⟩ => ⟨a, h1, h2.less (fun j hj => ?_), ((G1.trans G2).trans G3).trans h3⟩
  exact Nat.lt_of_lt_of_le hj ((G1.trans G2).trans G3).size
theorem FdS.start {T : FP} (C : FilesC T) {W w : World} {a : Addr} {K : Nat → Prop} (M : Fx T K w (.pointer (some a)) (fsF [] [-1, -1, -1, -1])) (hK : ∀ x, x < W.heap.size → K x) (G : Gw W w) : FdS T W (w.alloc (.cells (fdC [-1, -1, -1, -1]) 3)) a (fsF [] [-1, -1, -1, -1]) (.slice none 0 0) w.heap.size [] [-1, -1, -1, -1] :=
  ⟨G.trans (Gw.alloc _ _), Has.new _ _ _, G.size, World.ownsRow_nil _ _ _ 1, (fun e => by cases e), fun k => K k ∨ k = w.heap.size, M.box C _, fun x hx => .inl (hK x hx), (fun k hk => by cases hk), .inr rfl⟩
theorem HROW5 {T : FP} {W w : World} {a : Addr} {s : Fs} {av : Value} {fb L : Nat} {at_ : List Nat} {fd : List Int} {o : Obj} (H : FdS T W w a s av fb at_ fd) (h : at_.length = L) : (w.alloc o).ownsRow W.heap.size 3 1 av L (atV at_) := by
  subst h
  exact H.row.alloc o
set_option maxRecDepth 100000 in
set_option maxHeartbeats 16000000 in
theorem fds_walk {T : FP} (C : FilesC T) {W : World} {cb : Nat} {B : Option Addr} {ll : List Nat} (hl : ByIn W B ll) : Calls Try.prog 11 #[.slice B ll.length cb] W fun e W' => e = .returned (.bool true) ∧ Gw W W' := by
  have hn : ∀ b w, (Op.unary .not (.bool b)).run Try.prog w = .ok (.bool (!b)) w := fun _ _ => rfl
  have AW := awake_files C W
  by_cases h200 : 200 < ll.length
  · have h200' : (200 : Int) < ll.length := by omega
    go_enter Try.func11, Try.ntmps11
    go_wp2_with (first
      | (go_at_call 28; with_reducible refine AW.mono ?_; rintro e wa ⟨rfl, Ga⟩; have Ga := Lib.hid Ga)
      | (go_at_call 30; refine (fds_start C).mono ?_; rintro e w0 ⟨a, rfl, M0, Gb⟩; have Kb := Lib.hid (show ∀ x, x < W.heap.size → x < wa.heap.size from fun x hx => Nat.lt_of_lt_of_le hx Ga.out.size); have M0 := Lib.hid M0; have G0 := Lib.hid (Ga.out.trans Gb); clear Gb))
    go_ret
    exact ⟨rfl, G0.out⟩
  have h200' : decide ((200 : Int) < ll.length) = false := decide_eq_false (by omega)
  have H200 : Hid (ll.length ≤ 200) := by show _ ≤ _; omega
  obtain ⟨i0, hi1, hi2, hi3, hi4⟩ := info_i64
  have HII := Lib.hid (And.intro hi1 (And.intro hi2 (And.intro hi3 hi4)))
  have hm8 : Hid (maxLen = 9223372036854775807) := rfl
  have HLB := Lib.hid hl
  clear hl hi1 hi2 hi3 hi4 h200
  go_enter Try.func11, Try.ntmps11
  go_upto_region 9 with (first
    | (go_at_call 28; with_reducible refine AW.mono ?_; rintro e wa ⟨rfl, Ga⟩; have Ga := Lib.hid Ga)
    | (go_at_call 30; refine (fds_start C).mono ?_; rintro e w0 ⟨a, rfl, M0, Gb⟩; have Kb := Lib.hid (show ∀ x, x < W.heap.size → x < wa.heap.size from fun x hx => Nat.lt_of_lt_of_le hx Ga.out.size); have M0 := Lib.hid M0; have G0 := Lib.hid (Ga.out.trans Gb); clear Gb))
  have HS0 := Lib.hid (FdS.start C M0.out Kb.out G0.out)
  clear M0 Kb G0 Ga
  rw [show (#[Value.int .i64 (-1), .int .i64 (-1), .int .i64 (-1), .int .i64 (-1)] : Array Value) = fdC [-1, -1, -1, -1] from rfl]
  generalize w0.heap.size = fb at *
  generalize w0.alloc (.cells (fdC [-1, -1, -1, -1]) 3) = w1 at *
  go_loopw [5, 7] (fun av i wr => ∃ (k : Nat) (at_ : List Nat) (fd : List Int) (L : Nat) (X : Option Addr) (cap : Nat), i = .int .i64 k ∧ av = .slice X L cap ∧ k ≤ ll.length ∧ Hid (FdS T W wr a (fsF at_ fd) (.slice X L cap) fb at_ fd) ∧ Hid (FdI at_ fd) ∧ Hid (at_.length = L ∧ at_.length ≤ k)) (fun av i _ => ll.length - (intOf i).toNat)
  case atStart => exact ⟨0, [], [-1, -1, -1, -1], 0, none, 0, rfl, rfl, Nat.zero_le _, HS0.out, FdI.nil, rfl, Nat.le_refl _⟩
  case round =>
    clear HS0
    obtain ⟨k, at_, fd, L, X, cap, rfl, rfl, hk, HS, HI, HL⟩ := hrel
    by_cases hlt : k < ll.length
    · obtain ⟨z, hz⟩ : ∃ z, ll[k]? = some z := ⟨_, List.getElem?_eq_getElem hlt⟩
      obtain ⟨gb, off, rfl, hgb, hcl, hz255⟩ := (HLB.out.on HS.out.gw) k z hz
      obtain ⟨kk, hkk⟩ : ∃ kk : Nat, (z : Int) / 4 % 4 = kk := ⟨z / 4 % 4, by omega⟩
      have hkk4 : kk < 4 := by omega
      have ha3 := and3 z hz255
      obtain ⟨r, hr⟩ : ∃ r, r = z % 4 := ⟨_, rfl⟩
      rw [← hr] at ha3
      have hr4 : r < 4 := by omega
      obtain ⟨c, hc⟩ : ∃ c, fd[kk]? = some c := ⟨_, List.getElem?_eq_getElem (by rw [HI.out.len]; exact hkk4)⟩
      have hwk : IntKind.u16.wrap (kk : Int) = kk := by
        simp only [IntKind.wrap, IntKind.bits, IntKind.signed]
        simp
        omega
      have HW : Hid ((k : Int) + 1 ≤ 9223372036854775807) := by show _ ≤ _; have := H200.out; omega
      have HFEW : Hid (at_.length ≤ 999) := by show _ ≤ _; have := HL.out.2; have := H200.out; omega
      have HL201 : Hid (L ≤ 1000) := by show _ ≤ _; have := HL.out.1; have := HFEW.out; omega
      clear hz hr
      go_upto_region 13 with fail
      rw [hkk]
      clear hkk
      go_upto_region 14 with fail
      obtain ⟨wo, hwo⟩ : ∃ wo, wo = wr := ⟨_, rfl⟩
      subst hwo
      go_loopw [9, 10] (fun fr j wr => ∃ (n : Nat) (j' : Int), j = .int .i64 j' ∧ Hid (j' = (n : Int) - 1) ∧ n ≤ 4 ∧ fr = .int .i64 (frI fd n) ∧ wr = wo) (fun fr j _ => (intOf j + 1).toNat)
      case atStart => exact ⟨4, 3, rfl, rfl, Nat.le_refl _, by rw [frI_end HI.out.len], rfl⟩
      case round =>
        obtain ⟨n, j', rfl, hj, hn4, rfl, rfl⟩ := hrel
        cases n with
        | succ n =>
          obtain rfl : (n : Int) = j' := by have := hj.out; omega
          obtain ⟨b, hb⟩ : ∃ b, fd[n]? = some b := ⟨_, List.getElem?_eq_getElem (by rw [HI.out.len]; omega)⟩
          have hst := Lib.hid (frI_step hb)
          have q0 := HS.out.cell hb
          have hn0 : (0 : Int) ≤ n := by omega
          clear hj hb
          by_cases hneg : b < 0
          · go_wp2
            go_roundw
            case rel => exact ⟨n, _, rfl, rfl, by omega, by rw [hst.out, if_pos hneg], trivial⟩
            case measure => simp [intOf]
          · have hneg' : decide (b < 0) = false := decide_eq_false hneg
            go_wp2
            go_roundw
            case rel => exact ⟨n, _, rfl, rfl, by omega, by rw [hst.out, if_neg hneg], trivial⟩
            case measure => simp [intOf]
        | zero =>
          obtain rfl : -1 = j' := by have := hj.out; omega
          rw [frI_zero]
          clear hj hn4
          obtain ⟨K, hM, hK1, hK2, hK3⟩ := HS.out.ex
          have HM := Lib.hid hM
          have HK1 := Lib.hid hK1
          have HK2 := Lib.hid hK2
          have HK3 := Lib.hid hK3
          clear hM hK1 hK2 hK3 hz255
          have hrr : r = 0 ∨ r = 1 ∨ r = 2 ∨ r = 3 := by omega
          clear hr4
          rcases hrr with rfl | rfl | rfl | rfl
          · replace ha3 : bits .and .u8 (z : Int) 3 = 0 := ha3
            by_cases hf : freeI fd < 0
            · have hf1 := freeI_neg hf
              have A1 : Calls Try.prog 33 #[.pointer (some a), .string ⟨#[97]⟩] wr _ := x_open C HM.out ⟨#[97]⟩ (by decide) (fd_full hf) (few_fs (by have := HFEW.out; omega))
              rw [hf1]
              clear hf hf1
              go_upto_region 10 with (go_at_call 33; with_reducible refine A1.mono ?_; clear A1; rintro e w5 ⟨rfl, M5, S5⟩; have H5 := Lib.hid (HS.out.next HK1.out HK2.out HK3.out M5 S5); clear M5 S5)
              have h62 := HW.out
              go_wp2
              go_roundw
              case rel => exact ⟨k + 1, at_, fd, L, X, cap, by go_num, rfl, by omega, H5.out, HI.out, ⟨HL.out.1, by have := HL.out.2; omega⟩⟩
              case measure => simp [intOf]; omega
            · obtain ⟨p, hp, hp4⟩ := freeI_lt hf
              have hp4' : p < 4 := by rw [HI.out.len] at hp4; exact hp4
              obtain ⟨cp, hcp⟩ : ∃ c, fd[p]? = some c := ⟨_, List.getElem?_eq_getElem hp4⟩
              have HCP := Lib.hid hcp
              clear hcp
              have hwp : IntKind.i64.wrap (p : Int) = p := wrap_i64 (by omega)
              have hp0 : decide ((p : Int) < 0) = false := decide_eq_false (by omega)
              have hp1 : decide ((0 : Int) ≤ p) = true := decide_eq_true (by omega)
              have HOP : Hid (openF (fsF at_ fd) [97] = ((p : Int), fsF (at_ ++ [0]) (fd.set p (at_.length : Int)))) := by show _ = _; rw [fd_open hf, hp]; rfl
              have HFEW1 : Hid ((at_ ++ [0]).length ≤ 1000) := by show _ ≤ _; have := HFEW.out; simp; omega
              have A1 : Calls Try.prog 33 #[.pointer (some a), .string ⟨#[97]⟩] wr _ := x_open C HM.out ⟨#[97]⟩ (by decide) HOP.out (few_fs HFEW1.out)
              rw [hp]
              clear hf hp hp4
              go_upto_region 10 with (first
                | (go_at_call 33; with_reducible refine A1.mono ?_; clear A1; rintro e w5 ⟨rfl, M5, S5⟩; have H5 := Lib.hid (HS.out.next HK1.out HK2.out HK3.out M5 S5); clear M5 S5)
                | (at_builtin; refine wp_append_at _ rfl _ _ _ rfl W.heap.size 3 i0 _ 1 8 Try.underlying57 HII.out.1 HII.out.2.1 HII.out.2.2.1 HII.out.2.2.2 rfl (by omega) (.slice X L cap) L (atV at_) rfl (HROW5 H5.out HL.out.1) ⟨w5.heap.size, 0, none⟩ 1 1 [.int .i64 0] rfl rfl (World.news_of_block (heap_alloc_new w5 _)) (by simp [Value.oneCell']) (by have := hm8.out; have := HL201.out; omega) (by have := HL201.out; omega) (Nat.le_trans H5.out.gw.size (Gw.alloc _ _).size) ?_; intro v6 w6 own6 gr6 at6; obtain ⟨X6, c6, rfl⟩ := row_form own6; have H6 := Lib.hid (FdS.app (x := 0) C H5.out (.cells #[.int .i64 0] 3) (by rw [HL.out.1]; exact own6) gr6 at6); have q0 := H6.out.cell HCP.out; have q1 := H6.out.free p; clear own6 gr6 at6))
              have H7 := Lib.hid (H6.out.fdput C p (at_.length : Int))
              rw [HL.out.1] at H7
              have h62 := HW.out
              go_wp2
              go_roundw
              case rel => exact ⟨k + 1, at_ ++ [0], fd.set p (L : Int), L + 1, X6, c6, by go_num, rfl, by omega, by rw [wrap64_n (n := L) (by have := HL201.out; omega)]; exact H7.out, HI.out.more.set ⟨by omega, by rw [List.length_append, HL.out.1]; show _ < ((L + 1 : Nat) : Int); omega⟩, ⟨by show (at_ ++ [0]).length = _; rw [List.length_append, HL.out.1]; rfl, by rw [List.length_append]; have := HL.out.2; show _ + 1 ≤ _; omega⟩⟩
              case measure => simp [intOf]; omega
          · replace ha3 : bits .and .u8 (z : Int) 3 = 1 := ha3
            by_cases hneg : c < 0
            · have A1 : Calls Try.prog 34 #[.pointer (some a), .int .u16 (kk : Int)] wr _ := x_twin C HM.out kk (by omega) (fd_bad hc hneg).1 (few_fs (by have := HFEW.out; omega))
              go_upto_region 10 with (go_at_call 34; with_reducible refine A1.mono ?_; clear A1; rintro e w5 ⟨rfl, M5, S5⟩; have H5 := Lib.hid (HS.out.next HK1.out HK2.out HK3.out M5 S5); clear M5 S5; have q2 := H5.out.cell hc)
              have h62 := HW.out
              go_wp2
              go_roundw
              case rel => exact ⟨k + 1, at_, fd, L, X, cap, by go_num, rfl, by omega, H5.out, HI.out, ⟨HL.out.1, by have := HL.out.2; omega⟩⟩
              case measure => simp [intOf]; omega
            · by_cases hf : freeI fd < 0
              · have hf1 := freeI_neg hf
                have A1 : Calls Try.prog 34 #[.pointer (some a), .int .u16 (kk : Int)] wr _ := x_twin C HM.out kk (by omega) (fd_twin_full hc hneg hf) (few_fs (by have := HFEW.out; omega))
                rw [hf1]
                clear hf hf1
                have hneg' : decide (c < 0) = false := decide_eq_false hneg
                go_upto_region 10 with (go_at_call 34; with_reducible refine A1.mono ?_; clear A1; rintro e w5 ⟨rfl, M5, S5⟩; have H5 := Lib.hid (HS.out.next HK1.out HK2.out HK3.out M5 S5); clear M5 S5; have q2 := H5.out.cell hc)
                have h62 := HW.out
                go_wp2
                go_roundw
                case rel => exact ⟨k + 1, at_, fd, L, X, cap, by go_num, rfl, by omega, H5.out, HI.out, ⟨HL.out.1, by have := HL.out.2; omega⟩⟩
                case measure => simp [intOf]; omega
              · obtain ⟨p, hp, hp4⟩ := freeI_lt hf
                have hp4' : p < 4 := by rw [HI.out.len] at hp4; exact hp4
                obtain ⟨cp, hcp⟩ : ∃ c, fd[p]? = some c := ⟨_, List.getElem?_eq_getElem hp4⟩
                have HCP := Lib.hid hcp
                clear hcp
                have hwp : IntKind.i64.wrap (p : Int) = p := wrap_i64 (by omega)
                have hp0 : decide ((p : Int) < 0) = false := decide_eq_false (by omega)
                have hp1 : decide ((0 : Int) ≤ p) = true := decide_eq_true (by omega)
                have HOP : Hid (twinF (fsF at_ fd) kk = ((p : Int), fsF at_ (fd.set p c))) := by show _ = _; rw [fd_twin hc hneg hf, hp]; rfl
                have A1 : Calls Try.prog 34 #[.pointer (some a), .int .u16 (kk : Int)] wr _ := x_twin C HM.out kk (by omega) HOP.out (few_fs (by have := HFEW.out; omega))
                rw [hp]
                clear hf hp hp4
                have hneg' : decide (c < 0) = false := decide_eq_false hneg
                go_upto_region 10 with (go_at_call 34; with_reducible refine A1.mono ?_; clear A1; rintro e w5 ⟨rfl, M5, S5⟩; have H5 := Lib.hid (HS.out.next HK1.out HK2.out HK3.out M5 S5); clear M5 S5; have q2 := H5.out.cell hc; have q0 := H5.out.cell HCP.out; have q1 := H5.out.free p)
                have H7 := Lib.hid (H5.out.fdput C p c)
                have h62 := HW.out
                go_wp2
                go_roundw
                case rel => exact ⟨k + 1, at_, fd.set p c, L, X, cap, by go_num, rfl, by omega, H7.out, HI.out.set (HI.out.ix kk c hc), ⟨HL.out.1, by have := HL.out.2; omega⟩⟩
                case measure => simp [intOf]; omega
          · replace ha3 : bits .and .u8 (z : Int) 3 = 2 := ha3
            by_cases hneg : c < 0
            · have A1 : Calls Try.prog 42 #[.pointer (some a), .int .u16 (kk : Int)] wr _ := x_close C HM.out kk (by omega) (fd_bad hc hneg).2.1 (few_fs (by have := HFEW.out; omega))
              have hc1 : c = -1 := by have := (HI.out.ix kk c hc).1; omega
              have hset : Hid (fd.set kk (-1) = fd) := by
                show _ = _
                rw [← hc1]
                exact set_self hc
              have hneg' : decide (0 ≤ c) = false := decide_eq_false (by omega)
              go_upto_region 10 with (go_at_call 42; with_reducible refine A1.mono ?_; clear A1; rintro e w5 ⟨rfl, M5, S5⟩; have H5 := Lib.hid (HS.out.next HK1.out HK2.out HK3.out M5 S5); clear M5 S5; have q2 := H5.out.cell hc; have q1 := H5.out.free kk)
              have H7 := Lib.hid (H5.out.fdput C kk (-1))
              rw [hset.out] at H7
              have h62 := HW.out
              go_wp2
              go_roundw
              case rel => exact ⟨k + 1, at_, fd, L, X, cap, by go_num, rfl, by omega, H7.out, HI.out, ⟨HL.out.1, by have := HL.out.2; omega⟩⟩
              case measure => simp [intOf]; omega
            · have A1 : Calls Try.prog 42 #[.pointer (some a), .int .u16 (kk : Int)] wr _ := x_close C HM.out kk (by omega) (fd_close hc hneg) (few_fs (by have := HFEW.out; omega))
              have hneg' : (0 : Int) ≤ c := by omega
              go_upto_region 10 with (go_at_call 42; with_reducible refine A1.mono ?_; clear A1; rintro e w5 ⟨rfl, M5, S5⟩; have H5 := Lib.hid (HS.out.next HK1.out HK2.out HK3.out M5 S5); clear M5 S5; have q2 := H5.out.cell hc; have q1 := H5.out.free kk)
              have H7 := Lib.hid (H5.out.fdput C kk (-1))
              have h62 := HW.out
              go_wp2
              go_roundw
              case rel => exact ⟨k + 1, at_, fd.set kk (-1), L, X, cap, by go_num, rfl, by omega, H7.out, HI.out.set ⟨by omega, by omega⟩, ⟨HL.out.1, by have := HL.out.2; omega⟩⟩
              case measure => simp [intOf]; omega
          · replace ha3 : bits .and .u8 (z : Int) 3 = 3 := ha3
            by_cases hneg : c < 0
            · have A1 : Calls Try.prog 35 #[.pointer (some a), .int .u16 (kk : Int), .int .u16 1] wr _ := x_read C HM.out kk 1 (by omega) (by decide) (fd_bad hc hneg).2.2 (few_fs (by have := HFEW.out; omega))
              go_upto_region 10 with (go_at_call 35; with_reducible refine A1.mono ?_; clear A1; rintro e w5 ⟨x5, rfl, M5, S5, X5⟩; have H5 := Lib.hid (HS.out.next HK1.out HK2.out HK3.out (M5.less (fun j hj => .inl hj)) S5); clear M5 S5; have q2 := H5.out.cell hc; clear X5)
              have h62 := HW.out
              go_wp2
              go_roundw
              case rel => exact ⟨k + 1, at_, fd, L, X, cap, by go_num, rfl, by omega, H5.out, HI.out, ⟨HL.out.1, by have := HL.out.2; omega⟩⟩
              case measure => simp [intOf]; omega
            · obtain ⟨q, rfl⟩ : ∃ q : Nat, c = q := ⟨c.toNat, by omega⟩
              have hql : q < at_.length := by have := (HI.out.ix kk _ hc).2; omega
              obtain ⟨o, ho⟩ : ∃ o, at_[q]? = some o := ⟨_, List.getElem?_eq_getElem hql⟩
              have ho8 := HI.out.le o (List.mem_of_getElem? ho)
              have hqL : q < L := by have := HL.out.1; omega
              clear hql
              obtain ⟨g, rfl, e1, e2, e3⟩ := HS.out.off rfl ho
              clear e1 e2 e3
              have HO := Lib.hid ho
              clear ho
              have hwo : IntKind.i64.wrap (o : Int) = o := wrap_i64 (by omega)
              have hq0 : decide ((q : Int) < 0) = false := decide_eq_false (by omega)
              by_cases h8 : o < 8
              · have A1 : Calls Try.prog 35 #[.pointer (some a), .int .u16 (kk : Int), .int .u16 1] wr _ := x_read C HM.out kk 1 (by omega) (by decide) (fd_read hc hneg HO.out h8) (few_fs (by rw [List.length_set]; have := HFEW.out; omega))
                have h8' : (o : Int) < 8 := by omega
                have h8a : decide ((o : Int) < 8) = true := decide_eq_true (by omega)
                have h8b : decide ((8 : Int) ≤ o) = false := decide_eq_false (by omega)
                have hmn : min ((o : Int) + 1) 8 = ((o + 1 : Nat) : Int) := by omega
                have hnt : ((UInt8.ofNat o).toNat : Int) = o := by
                  have : (UInt8.ofNat o).toNat = o := by simp; omega
                  rw [this]
                go_upto_region 10 with (go_at_call 35; with_reducible refine A1.mono ?_; clear A1; rintro e w5 ⟨x5, rfl, M5, S5, X5⟩; have H5 := Lib.hid (HS.out.next HK1.out HK2.out HK3.out (M5.less (fun j hj => .inl hj)) S5); clear M5 S5; have q2 := H5.out.cell hc; obtain ⟨g7, o7, c7, e7, l7, d7⟩ := bta_one X5; subst e7; rw [hnt] at d7; obtain ⟨g', e', e1, q3, q4⟩ := H5.out.off rfl HO.out; cases e'; clear e1; clear X5)
                have H7 := Lib.hid (H5.out.atput C rfl q (o + 1))
                have h62 := HW.out
                go_wp2
                go_roundw
                case rel => exact ⟨k + 1, at_.set q (o + 1), fd, L, _, cap, by go_num, rfl, by omega, H7.out, HI.out.at_set (by omega), ⟨by show (at_.set q (o + 1)).length = _; rw [List.length_set]; exact HL.out.1, by rw [List.length_set]; have := HL.out.2; omega⟩⟩
                case measure => simp [intOf]; omega
              · have h8' : decide ((o : Int) < 8) = false := decide_eq_false (by omega)
                have h9' : (8 : Int) ≤ o := by omega
                have A1 : Calls Try.prog 35 #[.pointer (some a), .int .u16 (kk : Int), .int .u16 1] wr _ := x_read C HM.out kk 1 (by omega) (by decide) (fd_end hc hneg HO.out (by omega)) (few_fs (by have := HFEW.out; omega))
                have hmn : min ((o : Int) + 1) 8 = (8 : Int) := by omega
                have hset : Hid (at_.set q 8 = at_) := by
                  show _ = _
                  rw [show 8 = o by omega]
                  exact set_self HO.out
                go_upto_region 10 with (go_at_call 35; with_reducible refine A1.mono ?_; clear A1; rintro e w5 ⟨x5, rfl, M5, S5, X5⟩; have H5 := Lib.hid (HS.out.next HK1.out HK2.out HK3.out (M5.less (fun j hj => .inl hj)) S5); clear M5 S5; have q2 := H5.out.cell hc; obtain ⟨A7, p7, e7⟩ := bta_form X5; subst e7; obtain ⟨g', e', e1, q3, q4⟩ := H5.out.off rfl HO.out; cases e'; clear e1; clear X5)
                have H7 := Lib.hid (H5.out.atput C rfl q 8)
                rw [hset.out] at H7
                have h62 := HW.out
                go_wp2
                go_roundw
                case rel => exact ⟨k + 1, at_, fd, L, _, cap, by go_num, rfl, by omega, H7.out, HI.out, ⟨HL.out.1, by have := HL.out.2; omega⟩⟩
                case measure => simp [intOf]; omega
    · have hlt' : ¬ (k : Int) < ll.length := by omega
      clear hlt
      go_wp2
      go_ret
      exact ⟨rfl, HS.out.gw⟩
end Go.Proofs.Ytckoapfmfpmdgaa
