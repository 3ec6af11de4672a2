/-
  The program's own tree: New; the contract TreeC of all of it.
-/
import Derived.Test.YtlnobekjcengfaaTreeTo
namespace Go.Proofs.Ytlnobekjcengfaa
open Go.ChangeShapes Go.WideShapes Go.ChangeAt Go.RowKit Go.Joins
set_option linter.unusedVariables false
set_option linter.unusedSimpArgs false

/-- The program's tree as a predicate of a set of blocks. -/
def TT : TP := fun F W v s => ∃ g m, v = .pointer (some ⟨g, 0, none⟩) ∧ MT W g m s ∧ F = mtF g m
/-- A tree that is being filled. -/
structure NwT (W w : World) (g : Nat) (m : Option Nat) (s : St) : Prop where
  gw : Gw W w
  mt : MT w g m s
  hg : W.heap.size ≤ g
  hm : ∀ b, m = some b → W.heap.size ≤ b
theorem NwT.next {W w w' : World} {g : Nat} {m : Option Nat} {s s' : St} (h : NwT W w g m s) {w1 : World} (G : Gw w w1) (k : MkP g m s' w1 w') : ∃ m', NwT W w' g m' s' := by
  obtain ⟨m', h1, h2⟩ := k.ex
  have hs := h.gw.size
  have hG : Gw W w1 := h.gw.trans G
  refine ⟨m', ⟨⟨k.ch.os.trans hG.os, rfl, k.ch.output.trans hG.output, Nat.le_trans hG.size k.ch.size, fun j hj => (k.ch.block j (Nat.lt_of_lt_of_le hj hG.size) (fun hf => ?_)).trans (hG.block j hj)⟩, h1, h.hg, fun b hb => ?_⟩⟩
  · rcases hf with q | q
    · have := h.hg; omega
    · have := h.hm j q; omega
  · rcases h2 b hb with q | q
    · exact h.hm b q
    · exact Nat.le_trans hG.size q
theorem newP_ok {W w : World} {es : List (List UInt8 × Bool)} {g : Nat} {m : Option Nat} {s : St} (h : NwT W w g m s) (hr : runN (es.take es.length) ⟨[], 0⟩ = some s) : NewP TT W es (.returned (.tuple #[.pointer (some ⟨g, 0, none⟩), .int .i64 0])) w := by
  unfold NewP
  rw [newT_run, ← List.take_length (l := es), hr]
  exact ⟨_, mtF g m, rfl, ⟨g, m, rfl, h.mt, rfl⟩, h.gw, fun k hk => by
    rcases hk with rfl | q
    · exact h.hg
    · exact h.hm k q⟩
theorem runN_one {es : List (List UInt8 × Bool)} {k : Nat} {e : List UInt8 × Bool} {s : St} (he : es[k]? = some e) (hr : runN (es.take k) ⟨[], 0⟩ = some s) : runN (es.take (k + 1)) ⟨[], 0⟩ = if (makeT s e.1 e.2).1.2 = 0 then some (makeT s e.1 e.2).2 else none := by
  obtain ⟨hk, h2⟩ := List.getElem?_eq_some_iff.1 he
  rw [List.take_succ_eq_append_getElem hk, runN_app, hr, h2]
  show (if _ then _ else _) = _
  split <;> rfl
theorem newP_bad {W w : World} {es : List (List UInt8 × Bool)} {k : Nat} {e : List UInt8 × Bool} {s : St} (he : es[k]? = some e) (hr : runN (es.take k) ⟨[], 0⟩ = some s) (hb : (makeT s e.1 e.2).1.2 ≠ 0) (G : Gw W w) : NewP TT W es (.returned (.tuple #[.pointer none, .int .i64 11])) w := by
  have h1 := runN_one he hr
  rw [if_neg hb] at h1
  have h2 : newT es = none := by
    rw [newT_run, show es = es.take (k + 1) ++ es.drop (k + 1) by simp, runN_app, h1]
    rfl
  unfold NewP
  rw [h2]
  exact ⟨rfl, G⟩
theorem tmake_nx {s : St} (p : List UInt8) (d : Bool) : (makeT s p d).2.nx = s.nx ∨ (makeT s p d).2.nx = s.nx + 1 := by
  unfold makeT
  split
  · split
    · split
      · exact .inl rfl
      · split
        · exact .inl rfl
        · split
          · exact .inl rfl
          · exact .inr rfl
    · exact .inl rfl
  · exact .inl rfl
theorem make_len8 {s : St} (p : List UInt8) (d : Bool) (h : s.l.length ≤ 8) : (makeT s p d).2.l.length ≤ 8 := by
  unfold makeT
  split
  · split
    · split
      · exact h
      · split
        · exact h
        · split
          · exact h
          · simp; omega
    · exact h
  · exact h
set_option maxRecDepth 100000 in
set_option maxHeartbeats 4000000 in
theorem pnew_any {W : World} {x : Value} {es : List (List UInt8 × Bool)} (hx : EntAt W x es) (hsm : ∀ e ∈ es, e.1.length ≤ 140737488351232) (hlen : es.length ≤ 4611686018427387904) : Calls Try.prog 10 #[x] W fun e W' => NewP TT W es e W' := by
  obtain ⟨A, cap, rfl, hE⟩ := hx
  have HE := Lib.hid hE
  have HSM := Lib.hid hsm
  have HL := Lib.hid hlen
  have N0 : Hid (NwT W (W.alloc (.cells #[.map none, .int .i64 0] 66)) W.heap.size none ⟨[], 0⟩) := ⟨Gw.alloc _ _, ⟨Has.new _ _ _, .inl ⟨rfl, rfl⟩⟩, Nat.le_refl _, fun b hb => by cases hb⟩
  clear hE hsm hlen
  go_enter Try.func10, Try.ntmps10
  go_upto_region 3 with fail
  generalize (W.alloc (.cells #[.map none, .int .i64 0] 66)) = w0 at *
  go_loopw [13] (fun i wr => ∃ (k : Nat) (s : St) (m : Option Nat), i = .int .i64 k ∧ k ≤ es.length ∧ Hid (runN (es.take k) ⟨[], 0⟩ = some s) ∧ Hid (NwT W wr W.heap.size m s) ∧ Hid (Ok s.l ∧ s.l.length ≤ 8 ∧ 0 ≤ s.nx ∧ s.nx ≤ k)) (fun i _ => es.length - (intOf i).toNat)
  case atStart => exact ⟨0, _, none, rfl, Nat.zero_le _, rfl, N0.out, Ok.nil, by decide, by decide, by decide⟩
  case round =>
    obtain ⟨k, s, m, rfl, hk, HR, HN, HK⟩ := hrel
    by_cases hlt : k < es.length
    · obtain ⟨e, he⟩ : ∃ e, es[k]? = some e := ⟨_, List.getElem?_eq_getElem hlt⟩
      obtain ⟨ge, off, rfl, d0, d1, c, d2⟩ := HE.out k e he
      have hb := Lib.hid (HSM.out e (List.mem_of_getElem? he))
      have GN := HN.out.gw
      have d0 := GN.cell d0
      have d1 := GN.cell d1
      have d2 := GN.cell d2
      obtain ⟨hok, hl8, hn0, hnk⟩ := HK.out
      have HOK := Lib.hid hok
      have hbe : (bs e.1).size ≤ 140737488351232 := by rw [bs_size]; exact hb.out
      have hnx : s.nx ≤ 4611686018427387904 := by have := HL.out; omega
      have M0 : ∀ w, Gw wr w → Calls Try.prog 16 #[.pointer (some ⟨W.heap.size, 0, none⟩), .string (bs e.1), .bool e.2] w fun e' W' => e' = .returned (mV (makeT s e.1 e.2).1) ∧ MkP W.heap.size m (makeT s e.1 e.2).2 w W' := fun w G => by
        have := pmake_any (HN.out.mt.on G) hok hl8 (bs e.1) hbe e.2 hn0 hnx
        rw [bs_data] at this
        exact this
      have HE1 := Lib.hid he
      have HNB : Hid (∀ w, (makeT s e.1 e.2).1.2 ≠ 0 → Gw W w → NewP TT W es (.returned (.tuple #[.pointer none, .int .i64 11])) w) := fun w hb G => newP_bad he HR.out hb G
      have HON := Lib.hid (runN_one he HR.out)
      have HON2 := Lib.hid (And.intro (make_ok hok e.1 e.2) (And.intro (make_len8 e.1 e.2 hl8) (tmake_nx (s := s) e.1 e.2)))
      have HNK := Lib.hid (And.intro hn0 hnk)
      have GA : ∀ o : Obj, Gw wr (wr.alloc o) := fun o => Gw.alloc _ _
      have h62 : (k : Int) + 1 ≤ 9223372036854775807 := by have := HL.out; omega
      obtain ⟨r, hr⟩ : ∃ r, r = makeT s e.1 e.2 := ⟨_, rfl⟩
      rw [← hr] at M0
      have HRR := Lib.hid hr
      clear hok hl8 hn0 hnk hbe hnx he hr
      obtain ⟨⟨rn, ro⟩, s'⟩ := r
      obtain ⟨e1, e2⟩ := e
      unfold mV at M0
      simp only at d0 d1 d2 M0
      go_upto_region 6 with (go_at_call 16; with_reducible refine (M0 _ (GA _)).mono ?_; rintro e' w3 ⟨rfl, HMK⟩)
      by_cases e0 : ro = 0
      · subst e0
        obtain ⟨m', HN'⟩ := HN.out.next (GA _) HMK
        go_wp2
        go_roundw
        case rel =>
          have h := HON2.out
          rw [← HRR.out] at h
          obtain ⟨h1, h2, h3⟩ := h
          have h4 := HNK.out
          refine ⟨k + 1, s', m', by go_num, by omega, ?_, HN', h1, h2, ?_, ?_⟩
          · show _ = _
            rw [HON.out, ← HRR.out]
            rfl
          · rcases h3 with q | q
            · have q' : s'.nx = s.nx := q; omega
            · have q' : s'.nx = s.nx + 1 := q; omega
          · rcases h3 with q | q
            · have q' : s'.nx = s.nx := q; omega
            · have q' : s'.nx = s.nx + 1 := q; omega
        case measure => simp [intOf]; omega
      · have eb : (ro == 0) = false := beq_false_of_ne e0
        obtain ⟨m', HN'⟩ := HN.out.next (GA _) HMK
        have HZ := Lib.hid (HNB.out w3 (by rw [← HRR.out]; exact e0) HN'.gw)
        clear GA HMK HN' e0 d0 d1 d2 M0 h62 hk hlt
        go_wp2
        go_ret2
        exact HZ.out
    · obtain rfl : es.length = k := by omega
      go_wp2
      go_ret2
      exact newP_ok HN.out HR.out
end Go.Proofs.Ytlnobekjcengfaa
