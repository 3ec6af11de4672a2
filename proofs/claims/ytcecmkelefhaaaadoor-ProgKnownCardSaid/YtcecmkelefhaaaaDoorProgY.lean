/-
  What ProgKnown lays: programs by hand; strings as bytes.
-/
import Derived.Test.YtcecmkelefhaaaaDoorProgX
import Derived.Laws.IdiomStrings
namespace Go.Proofs.YtcecmkelefhaaaaDoor
open Go.ChangeShapes Go.WideShapes Go.ChangeAt Go.RowKit Go.Joins
set_option linter.unusedVariables false

theorem inst_at {W : World} {g : Nat} {L : List (Int × Int)} (h : Has W g 41 (iCells L).toArray) : InstAt W (some ⟨g, 0, none⟩) L := fun i x hx => by
  obtain ⟨h1, h2⟩ := iCells_at hx
  refine ⟨g, 0, rfl, h.lt, ?_, ?_⟩
  · rw [h.cell, Nat.zero_add, List.getElem?_toArray]; exact h1
  · rw [h.cell, Nat.zero_add, List.getElem?_toArray]; exact h2
theorem str_at {W : World} {g : Nat} {N : List ByteArray} (h : Has W g 9 (N.map Value.string).toArray) : StrAt W (some ⟨g, 0, none⟩) N := fun i s hs =>
  ⟨g, 0, rfl, h.lt, by rw [h.cell, Nat.zero_add, List.getElem?_toArray, List.getElem?_map, hs]; rfl⟩
theorem inst_nil (W : World) (A : Option Addr) : InstAt W A [] := fun i x hx => by rw [List.getElem?_nil] at hx; cases hx
theorem str_nil (W : World) (A : Option Addr) : StrAt W A [] := fun i x hx => by rw [List.getElem?_nil] at hx; cases hx
theorem pok_lit {W : World} {A B : Option Addr} {L : List (Int × Int)} {N : List ByteArray} (h1 : InstAt W A L) (h2 : StrAt W B N) (hl : L.length ≤ 1000) (hn : N.length ≤ 1000) (hs : ∀ s ∈ N, s.size ≤ 140737488351232) (hw : ∀ x ∈ L, (Lit.int .i64 x.1).wf = true ∧ (Lit.int .i64 x.2).wf = true) : POk W A L L.length B N N.length :=
  ⟨Nat.le_refl _, by omega, Nat.le_refl _, by omega, h1, h2, hs, hw⟩
def z97 : Array Value := (iCells (List.replicate 97 ((0 : Int), (0 : Int)))).toArray
def z9 : Array Value := ((List.replicate 9 (⟨#[]⟩ : ByteArray)).map Value.string).toArray
def z1 : Array Value := (iCells [((0 : Int), (0 : Int))]).toArray
theorem make97 (W : World) : (Instr.makeSlice 22 (.int .i64 97) (.int .i64 97)).run Tryd.prog W = .ok (.slice (some ⟨W.heap.size, 0, none⟩) 97 97) (W.alloc (.cells z97 41)) := by kernel_rfl
theorem make9 (W : World) : (Instr.makeSlice 23 (.int .i64 9) (.int .i64 9)).run Tryd.prog W = .ok (.slice (some ⟨W.heap.size, 0, none⟩) 9 9) (W.alloc (.cells z9 9)) := by kernel_rfl
theorem make1 (W : World) : (Instr.makeSlice 22 (.int .i64 1) (.int .i64 1)).run Tryd.prog W = .ok (.slice (some ⟨W.heap.size, 0, none⟩) 1 1) (W.alloc (.cells z1 41)) := by kernel_rfl
/-- '[]byte(s)'. -/
theorem to_bytes (s : ByteArray) (hs : s.size ≤ 1000) (W : World) : ∃ W' c, (convert 9 28 (.string s)).run Tryd.prog W = .ok (.slice (some ⟨W.heap.size, 0, none⟩) s.size c) W' ∧ s.size ≤ c ∧ c ≤ 9223372036854775807 ∧ ByAt W' (some ⟨W.heap.size, 0, none⟩) s.data.toList ∧ Gw W W' := by
  refine ⟨_, _, run_bytes_of_string W 9 28 5 s Tryd.underlying9 Tryd.underlying28 Tryd.underlying5, grownCap_ge _ _ _ _, grownCap_le_maxLen _ _ _ _ (by unfold maxLen; omega), fun i z hz => ⟨W.heap.size, 0, rfl, ?_, ?_⟩, (Gw.refl W).drew.trans (Gw.alloc _ _)⟩
  · show W.heap.size < (W.heap.push _).size
    simp
  · have e : W.heap.size = W.drew.heap.size := rfl
    rw [Nat.zero_add, e, World.cell?_alloc_mark]
    have hi := (List.getElem?_eq_some_iff.1 hz).1
    rw [Array.length_toList] at hi
    rw [bytesRow_at s _ i hi]
    have : s.data[i] = z := by
      have := (List.getElem?_eq_some_iff.1 hz).2
      simpa using this
    rw [this]
/-! ### The programs by hand -/
def Lp : List (Int × Int) := [(1, 4660), (34, 10), (26, 0)]
def Np : List ByteArray := [⟨#[97, 98]⟩, ⟨#[]⟩]
def bads : List ByteArray := [⟨#[]⟩, ⟨#[88, 82]⟩, ⟨#[88, 83, 0, 0]⟩, ⟨#[88, 82, 0, 0, 0]⟩, ⟨#[88, 82, 1, 2, 97]⟩, ⟨#[88, 82, 0, 1, 1, 0]⟩]
theorem errLp : errP Lp Np = 0 := by decide +kernel
theorem encLp : (⟨(encP Lp Np).toArray⟩ : ByteArray) = ⟨#[88, 82, 2, 2, 97, 98, 0, 3, 1, 18, 52, 34, 0, 10, 26, 0, 0]⟩ := rfl
theorem err97 : errP (List.replicate 97 ((0 : Int), (0 : Int))) [] = 3 := err3 (.inl (by simp))
theorem err9 : errP [] (List.replicate 9 (⟨#[]⟩ : ByteArray)) = 3 := err3 (.inr (by simp))
theorem err1 : errP [((0 : Int), (0 : Int))] [] = 5 := by decide +kernel
theorem errBads : ∀ s ∈ bads, errR s.data.toList = 4 := by decide +kernel
theorem errI1 : errR [88, 82, 0, 1, 0, 0, 0] = 5 := by decide +kernel
theorem errI2 : errR [88, 82, 0, 1, 2, 0, 1] = 5 := by decide +kernel
theorem digs4660 : digs 4660 = [52, 54, 54, 48] := by
  rw [digs_big (by omega), digs_big (by omega), digs_big (by omega), digs_small (by omega)]
  decide
theorem digs10 : digs 10 = [49, 48] := by
  rw [digs_big (by omega), digs_small (by omega)]
  decide
theorem digs0 : digs 0 = [48] := by rw [digs_small (by omega)]; rfl
theorem digs1 : digs 1 = [49] := by rw [digs_small (by omega)]; rfl
theorem digs2 : digs 2 = [50] := by rw [digs_small (by omega)]; rfl
theorem wdN {op a : Int} {n d : List UInt8} (h : okI (op, a) = true) (hm : 1 ≤ ms op.toNat) (hn : (nm op.toNat).data.toList = n) (hd : digs a.toNat = d) : (wd (op, a)).data.toList = n ++ [32] ++ d := by
  unfold wd
  rw [if_pos h, if_pos hm, data_append, data_append, hn, hd]
theorem txtLp : (⟨(txt Lp 3).toArray⟩ : ByteArray) = ⟨#[48, 32, 112, 117, 115, 104, 32, 52, 54, 54, 48, 10, 49, 32, 114, 101, 110, 97, 109, 101, 32, 49, 48, 10, 50, 32, 101, 120, 105, 116, 10]⟩ := by
  have w0 : (wd (1, 4660)).data.toList = [112, 117, 115, 104, 32, 52, 54, 54, 48] := by
    rw [wdN (op := 1) (a := 4660) (n := [112, 117, 115, 104]) (d := [52, 54, 54, 48]) (by decide +kernel) (by decide +kernel) (by decide +kernel) digs4660]
    rfl
  have w1 : (wd (34, 10)).data.toList = [114, 101, 110, 97, 109, 101, 32, 49, 48] := by
    rw [wdN (op := 34) (a := 10) (n := [114, 101, 110, 97, 109, 101]) (d := [49, 48]) (by decide +kernel) (by decide +kernel) (by decide +kernel) digs10]
    rfl
  have w2 : (wd (26, 0)).data.toList = [101, 120, 105, 116] := by
    unfold wd
    rw [if_pos (by decide +kernel), if_neg (by decide +kernel)]
    decide +kernel
  have t1 := txt_succ (L := Lp) (k := 0) (x := (1, 4660)) rfl
  have t2 := txt_succ (L := Lp) (k := 1) (x := (34, 10)) rfl
  have t3 := txt_succ (L := Lp) (k := 2) (x := (26, 0)) rfl
  rw [t3, t2, t1, w0, w1, w2, digs0, digs1, digs2]
  rfl
theorem txtQ : (⟨(txt [(0, 0), (2, 3)] 2).toArray⟩ : ByteArray) = ⟨#[48, 32, 63, 10, 49, 32, 63, 10]⟩ := by
  have w0 : (wd (0, 0)).data.toList = [63] := by
    unfold wd
    rw [if_neg (by decide +kernel)]
  have w1 : (wd (2, 3)).data.toList = [63] := by
    unfold wd
    rw [if_neg (by decide +kernel)]
  have t1 := txt_succ (L := [(0, 0), (2, 3)]) (k := 0) (x := (0, 0)) rfl
  have t2 := txt_succ (L := [(0, 0), (2, 3)]) (k := 1) (x := (2, 3)) rfl
  rw [t2, t1, w0, w1, digs0, digs1]
  rfl
/-! ### What the law lays -/
theorem lay_p (w1 : World) : ∀ W, W = ((w1.alloc (.cells #[.int .i64 1, .int .i64 4660, .int .i64 34, .int .i64 10, .int .i64 26, .int .i64 0] 41)).alloc (.cells #[.string ⟨#[97, 98]⟩, .string ⟨#[]⟩] 9)).alloc (.cells #[.slice (some ⟨w1.heap.size, 0, none⟩) 3 3, .slice (some ⟨w1.heap.size + 1, 0, none⟩) 2 2] 25) →
    POk W (some ⟨w1.heap.size, 0, none⟩) Lp 3 (some ⟨w1.heap.size + 1, 0, none⟩) Np 2 ∧ Has W (w1.heap.size + 1 + 1) 25 #[.slice (some ⟨w1.heap.size, 0, none⟩) 3 3, .slice (some ⟨w1.heap.size + 1, 0, none⟩) 2 2] ∧ Gw w1 W := by
  intro W hW
  have hs : ∀ (v : World) (o : Obj), (v.alloc o).heap.size = v.heap.size + 1 := fun v o => by show (v.heap.push o).size = _; simp
  have h1 := Has.new w1 41 (iCells Lp).toArray
  have e1 : (iCells Lp).toArray = #[.int .i64 1, .int .i64 4660, .int .i64 34, .int .i64 10, .int .i64 26, .int .i64 0] := rfl
  have e2 : (Np.map Value.string).toArray = #[.string ⟨#[97, 98]⟩, .string ⟨#[]⟩] := rfl
  rw [← e1, ← e2] at hW
  have h2 := Has.new (w1.alloc (.cells (iCells Lp).toArray 41)) 9 (Np.map Value.string).toArray
  rw [hs] at h2
  have h3 := Has.new ((w1.alloc (.cells (iCells Lp).toArray 41)).alloc (.cells (Np.map Value.string).toArray 9)) 25 #[.slice (some ⟨w1.heap.size, 0, none⟩) 3 3, .slice (some ⟨w1.heap.size + 1, 0, none⟩) 2 2]
  rw [hs, hs] at h3
  have g1 := Gw.alloc w1 (.cells (iCells Lp).toArray 41)
  have g2 := Gw.alloc (w1.alloc (.cells (iCells Lp).toArray 41)) (.cells (Np.map Value.string).toArray 9)
  have g3 := Gw.alloc ((w1.alloc (.cells (iCells Lp).toArray 41)).alloc (.cells (Np.map Value.string).toArray 9)) (.cells #[.slice (some ⟨w1.heap.size, 0, none⟩) 3 3, .slice (some ⟨w1.heap.size + 1, 0, none⟩) 2 2] 25)
  rw [hW]
  refine ⟨pok_lit (inst_at (h1.same ((g2.trans g3).block _ h1.lt))) (str_at (h2.same (g3.block _ h2.lt))) (by decide) (by decide) (by decide) (by decide), h3, g1.trans (g2.trans g3)⟩
/-- What stays behind each call. -/
structure SK (w W : World) (A B : Option Addr) (pb : Nat) : Prop where
  p : POk W A Lp 3 B Np 2
  c0 : W.cell? ⟨pb, 0, none⟩ = some (.slice A 3 3)
  c1 : W.cell? ⟨pb, 1, none⟩ = some (.slice B 2 2)
  gw : Gw w W
  tb : Tb W
theorem SK.on {w W W' : World} {A B : Option Addr} {pb : Nat} (h : SK w W A B pb) (G : Gw W W') : SK w W' A B pb := ⟨h.p.gw G, G.cell h.c0, G.cell h.c1, h.gw.trans G, h.tb.gw G⟩
theorem bytes_p {w W : World} {A B : Option Addr} {pb : Nat} (h : SK w W A B pb) : Calls Tryd.prog 12 #[.agg #[.slice A 3 3, .slice B 2 2]] W fun e W' => ∃ v, e = .returned (.tuple #[v, .int .i64 0]) ∧ BRel W W' v (encP Lp Np) := post_zero (bytes_any h.p) errLp
theorem bytes_97 (W : World) : Calls Tryd.prog 12 #[.agg #[.slice (some ⟨W.heap.size, 0, none⟩) 97 97, .slice none 0 0]] (W.alloc (.cells z97 41)) fun e W' => ∃ v, e = .returned (.tuple #[v, .int .i64 3]) ∧ Gw W W' := by
  have h := post_bad (bytes_any (pok_lit (inst_at (L := List.replicate 97 ((0 : Int), (0 : Int))) (Has.new W 41 z97)) (str_nil _ none) (by simp) (by simp) (by simp) (by simp; decide))) err97 (by decide)
  simp only [List.length_replicate, List.length_nil] at h
  exact h.mono fun e W' ⟨v, he, hr⟩ => ⟨v, he, (Gw.alloc W _).trans hr.gw⟩
theorem bytes_9 (W : World) : Calls Tryd.prog 12 #[.agg #[.slice none 0 0, .slice (some ⟨W.heap.size, 0, none⟩) 9 9]] (W.alloc (.cells z9 9)) fun e W' => ∃ v, e = .returned (.tuple #[v, .int .i64 3]) ∧ Gw W W' := by
  have h := post_bad (bytes_any (pok_lit (inst_nil _ none) (str_at (N := List.replicate 9 (⟨#[]⟩ : ByteArray)) (Has.new W 9 z9)) (by simp) (by simp) (by simp; decide) (by simp))) err9 (by decide)
  simp only [List.length_replicate, List.length_nil] at h
  exact h.mono fun e W' ⟨v, he, hr⟩ => ⟨v, he, (Gw.alloc W _).trans hr.gw⟩
theorem bytes_1 (W : World) : Calls Tryd.prog 12 #[.agg #[.slice (some ⟨W.heap.size, 0, none⟩) 1 1, .slice none 0 0]] (W.alloc (.cells z1 41)) fun e W' => ∃ v, e = .returned (.tuple #[v, .int .i64 5]) ∧ Gw W W' :=
  (post_bad (bytes_any (pok_lit (inst_at (L := [((0 : Int), (0 : Int))]) (Has.new W 41 z1)) (str_nil _ none) (by simp) (by simp) (by simp) (by simp; decide))) err1 (by decide)).mono fun e W' ⟨v, he, hr⟩ => ⟨v, he, (Gw.alloc W _).trans hr.gw⟩
/-- Bytes that are none, read. -/
theorem read_bad {W : World} {A : Option Addr} {l : List UInt8} {n c : Nat} {x : Int} (h : ByAt W A l) (hn : l.length = n) (h1 : n ≤ c) (h2 : c ≤ 9223372036854775807) (hx : errR l = x) (h0 : ¬ x = 0) : Calls Tryd.prog 14 #[.slice A n c] W fun e W' => ∃ C ca B cb, e = .returned (.tuple #[.agg #[.slice C 0 ca, .slice B 0 cb], .int .i64 x]) ∧ Gw W W' := by
  subst hn
  refine (read_any h h1 h2).mono fun e W' hr => ?_
  obtain ⟨C, ca, B, cb, he, _, hg⟩ := hr
  rw [hx, if_neg h0, if_neg h0] at he
  exact ⟨C, ca, B, cb, he, hg⟩
theorem conv_same (w : World) (cs : Array Value) (n c : Nat) : (convert 28 28 (.slice (some ⟨w.heap.size, 0, none⟩) n c)).run Tryd.prog (w.alloc (.cells cs 5)) = .ok (.slice (some ⟨w.heap.size, 0, none⟩) n c) (w.alloc (.cells cs 5 (cs.size, cs.size + 1))) := by
  have hsh : (w.alloc (.cells cs 5)).shape? w.heap.size = some (5, cs.size) := by
    have : (w.alloc (.cells cs 5)).heap[w.heap.size]? = some (.cells cs 5) := by
      show (w.heap.push (.cells cs 5))[w.heap.size]? = _
      simp
    unfold World.shape?
    rw [this]
  have hfr : (w.alloc (.cells cs 5)).freeze ⟨w.heap.size, cs.size, none⟩ 1 = w.alloc (.cells cs 5 (cs.size, cs.size + 1)) := by
    have hm : ∀ (a : Array Obj) (x : Obj) (f : Obj → Obj), (a.push x).modify a.size f = a.push (f x) := by
      intro a x f
      apply Array.ext
      · simp
      · intro i h1 h2
        simp only [Array.getElem_modify, Array.getElem_push]
        by_cases h : a.size = i
        · subst h
          simp
        · have hi : i < a.size := by simp at h1; omega
          simp [h, hi]
    unfold World.freeze
    rw [if_neg (by decide)]
    show ({ w with heap := (w.heap.push (.cells cs 5)).modify w.heap.size _ } : World) = _
    rw [hm]
    rfl
  simp [convert, run_underlying Tryd.underlying28, run_underlying Tryd.underlying5, markStringish, hsh]
  exact hfr
/-- Bytes laid by hand, read. -/
theorem read_lit (W : World) (l : List UInt8) {n : Nat} {x : Int} (hn : l.length = n) (hm : n ≤ 100) (hx : errR l = x) (h0 : ¬ x = 0) (cs : Array Value) (hc : cs = (u8s l).toArray) (fr : Nat × Nat) : Calls Tryd.prog 14 #[.slice (some ⟨W.heap.size, 0, none⟩) n n] (W.alloc (.cells cs 5 fr)) fun e W' => ∃ C ca B cb, e = .returned (.tuple #[.agg #[.slice C 0 ca, .slice B 0 cb], .int .i64 x]) ∧ Gw W W' := by
  have hq : ByAt (W.alloc (.cells cs 5 fr)) (some ⟨W.heap.size, 0, none⟩) l := fun i z hz => by
    refine ⟨W.heap.size, 0, rfl, by show W.heap.size < (W.heap.push _).size; simp, ?_⟩
    rw [Nat.zero_add, World.cell?_alloc_mark, hc]
    simp [u8s, hz]
  refine (read_bad hq hn (Nat.le_refl n) (by omega) hx h0).mono fun e W' hr => ?_
  obtain ⟨C, ca, B, cb, he, hg⟩ := hr
  exact ⟨C, ca, B, cb, he, (Gw.alloc W _).trans hg⟩
theorem text_p {w W : World} {A B : Option Addr} {pb : Nat} (h : SK w W A B pb) : Calls Tryd.prog 19 #[.agg #[.slice A 3 3, .slice B 2 2]] W fun e W' => e = .returned (.string ⟨#[48, 32, 112, 117, 115, 104, 32, 52, 54, 54, 48, 10, 49, 32, 114, 101, 110, 97, 109, 101, 32, 49, 48, 10, 50, 32, 101, 120, 105, 116, 10]⟩) ∧ Gw W W' := by
  have := text_any h.p (by decide) h.tb
  rw [show Lp.length = 3 from rfl, txtLp] at this
  exact this
theorem text_q {W : World} (h : Tb W) : Calls Tryd.prog 19 #[.agg #[.slice (some ⟨W.heap.size, 0, none⟩) 2 2, .slice none 0 0]] (W.alloc (.cells #[.int .i64 0, .int .i64 0, .int .i64 2, .int .i64 3] 41)) fun e W' => e = .returned (.string ⟨#[48, 32, 63, 10, 49, 32, 63, 10]⟩) ∧ Gw W W' := by
  have hh : Has (W.alloc (.cells #[.int .i64 0, .int .i64 0, .int .i64 2, .int .i64 3] 41)) W.heap.size 41 (iCells [((0 : Int), (0 : Int)), (2, 3)]).toArray := Has.new W _ _
  have := text_any (pok_lit (inst_at hh) (str_nil _ none) (by simp) (by simp) (by simp) (by decide)) (by simp) (h.gw (Gw.alloc W _))
  rw [show ([((0 : Int), (0 : Int)), (2, 3)] : List (Int × Int)).length = 2 from rfl, txtQ] at this
  exact this.mono fun e W' ⟨he, hg⟩ => ⟨he, (Gw.alloc W _).trans hg⟩
end Go.Proofs.YtcecmkelefhaaaaDoor
