/-
  Parts of the proof, joined: UnitX, UnitQ, DpllSv.
-/
import Derived.Test.YtpmdnbdmocdngaaGreatMh40
import Derived.Deep.LoopGhost
import Derived.Laws.Small
import Derived.Laws.Unary
import Derived.Test.YtpmdnbdmocdngaaGreatMh41
import Derived.Deep.OwnRows
import Derived.Test.YtpmdnbdmocdngaaGreatMh33
import Derived.Test.YtpmdnbdmocdngaaGreatMh30

namespace Go.Proofs.YtpmdnbdmocdngaaGreat
open Go.ChangeShapes Go.WideShapes Go.ChangeAt Go.RowKit
set_option linter.unusedVariables false

def Two (t c : List Int) : Prop := ∃ x ∈ c, ∃ y ∈ c, x ≠ y ∧ wo t x = 0 ∧ wo t y = 0
def DifPost (t c : List Int) (W : World) (e : Ending) (W' : World) : Prop := (∃ b : Bool, e = .returned (.bool b) ∧ (b = true ↔ Two t c)) ∧ W = W'
def isT (t : List Int) (y : Int) : Bool := decide (wo t y = 1)
/-- What a literal's number is in t, and how the walk comes to it. -/
theorem lit_at {n : Nat} {t : List Int} {l : Int} (ht : TV n t) (ok : LOk n l) (hn : n ≤ 65536) : ∃ (i : Nat) (x nl : Int), i < n ∧ i = at_ l ∧ t[i]? = some x ∧ IntKind.i64.wrap (-l) = nl ∧ max l nl = (i : Int) + 1 ∧ (x = 0 ↔ wo t l = 0) ∧ ((x == 1) == decide (0 < l)) = (if x = 0 then decide (l < 0) else isT t l) ∧ nl = -l := by
  have hx := wo_at ht ok
  have hi := at_lt ok
  refine ⟨at_ l, _, -l, hi, rfl, hx, wrap_in (by have := ok.2; omega) (by have := ok.2; omega), ?_, ?_, ?_, rfl⟩
  · unfold at_
    have := ok.1
    split <;> omega
  · unfold sg; split <;> omega
  · have h0 := ok.1
    rcases wo_cases ht l with e | e | e <;> unfold sg isT <;> rw [e] <;> by_cases hl : l < 0
    all_goals simp [hl]
    all_goals omega
set_option maxHeartbeats 1600000 in
theorem differ_any {n : Nat} {C T : Option Addr} {c t : List Int} {ccap tcap : Nat} (W : World) (hc : SeqAt (Value.int .i64) W C c) (hcl : c.length ≤ 9223372036854775807) (ht : SeqAt (Value.int .i64) W T t) (tv : TV n t) (ok : ∀ l ∈ c, LOk n l) (hn : n ≤ 65536) :
    Calls Tryz.prog 36 #[.slice C c.length ccap, .slice T t.length tcap] W (DifPost t c W) := by
  have HC := Lib.hid hc
  have HT := Lib.hid ht
  have TVH := Lib.hid tv
  have OK := Lib.hid ok
  have htl := tv.1
  clear hc ht tv ok
  go_enter Tryz.func36, Tryz.ntmps36
  go_wp2_with fail
  go_loop [5, 6] (fun v i => ∃ (k : Nat) (fs : Int), k ≤ c.length ∧ i = .int .i64 k ∧ v = .int .i64 fs ∧ Hid ((fs = 0 ∧ ∀ y ∈ c.take k, wo t y ≠ 0) ∨ (fs ≠ 0 ∧ fs ∈ c ∧ wo t fs = 0 ∧ ∀ y ∈ c.take k, wo t y = 0 → y = fs))) (fun _ i => c.length - (intOf i).toNat)
  case atStart => exact ⟨0, 0, by omega, rfl, rfl, .inl ⟨rfl, fun y hy => by simp at hy⟩⟩
  case round =>
    obtain ⟨k, fs, hk, rfl, rfl, G⟩ := hrel
    by_cases hlt : k < c.length
    · obtain ⟨l, hz⟩ : ∃ l, c[k]? = some l := ⟨_, List.getElem?_eq_getElem hlt⟩
      obtain ⟨a, rfl, hcl2⟩ := HC.out.get k l hz
      have hm := List.mem_of_getElem? hz
      have okl := OK.out l hm
      obtain ⟨i, x, nl, hi, -, hx, hw, hmx, h0, -, rfl⟩ := lit_at TVH.out okl hn
      obtain ⟨aT, rfl, hct⟩ := HT.out.get i x hx
      have hit : (i : Int) < (t.length : Int) := by omega
      have tk : ∀ y, y ∈ c.take (k + 1) ↔ y ∈ c.take k ∨ y = l := fun y => by
        rw [List.take_succ_eq_append_getElem hlt, (List.getElem?_eq_some_iff.1 hz).2]; simp
      by_cases hx0 : x = 0
      · have e1 : (x != 0) = false := by simpa using hx0
        have w0 := h0.1 hx0
        by_cases hf : fs = 0
        · have e2 : (fs == 0) = true := by simpa using hf
          have e3 : (l != l) = false := by simp
          have HE : Hid ((l = 0 ∧ ∀ y ∈ c.take (k + 1), wo t y ≠ 0) ∨ (l ≠ 0 ∧ l ∈ c ∧ wo t l = 0 ∧ ∀ y ∈ c.take (k + 1), wo t y = 0 → y = l)) := by
            refine .inr ⟨okl.1, hm, w0, fun y hy hy0 => ?_⟩
            rcases (tk y).1 hy with hy | hy
            · rcases G.out with ⟨_, h⟩ | ⟨h, _⟩
              · exact absurd hy0 (h y hy)
              · exact absurd hf h
            · exact hy
          clear hz hm okl hx h0 tk G hi w0
          go_wp2_with fail
          go_round
          case rel => exact ⟨k + 1, l, by omega, by go_num, rfl, HE.out⟩
          case measure => simp [intOf]; omega
        · have e2 : (fs == 0) = false := by simpa using hf
          by_cases hfl : l = fs
          · subst hfl
            have e3 : (l != l) = false := by simp
            have HE : Hid ((l = 0 ∧ ∀ y ∈ c.take (k + 1), wo t y ≠ 0) ∨ (l ≠ 0 ∧ l ∈ c ∧ wo t l = 0 ∧ ∀ y ∈ c.take (k + 1), wo t y = 0 → y = l)) := by
              refine .inr ⟨okl.1, hm, w0, fun y hy hy0 => ?_⟩
              rcases (tk y).1 hy with hy | hy
              · rcases G.out with ⟨h, _⟩ | ⟨_, _, _, h⟩
                · exact absurd h hf
                · exact h y hy hy0
              · exact hy
            clear hz hm okl hx h0 tk G hi w0
            go_wp2_with fail
            go_round
            case rel => exact ⟨k + 1, l, by omega, by go_num, rfl, HE.out⟩
            case measure => simp [intOf]; omega
          · have e3 : (l != fs) = true := by simpa using hfl
            have HE : Hid (Two t c) := by
              rcases G.out with ⟨h, _⟩ | ⟨_, h1, h2, _⟩
              · exact absurd h hf
              · exact ⟨l, hm, fs, h1, hfl, w0, h2⟩
            clear hz hm okl hx h0 tk G hi w0
            go_wp2_with fail
            go_ret
            exact ⟨⟨true, rfl, by simpa using HE.out⟩, rfl⟩
      · have e1 : (x != 0) = true := by simpa using hx0
        have w0 : wo t l ≠ 0 := fun e => hx0 (h0.2 e)
        have HE : Hid ((fs = 0 ∧ ∀ y ∈ c.take (k + 1), wo t y ≠ 0) ∨ (fs ≠ 0 ∧ fs ∈ c ∧ wo t fs = 0 ∧ ∀ y ∈ c.take (k + 1), wo t y = 0 → y = fs)) := by
          rcases G.out with ⟨h1, h2⟩ | ⟨h1, h2, h3, h4⟩
          · exact .inl ⟨h1, fun y hy => by rcases (tk y).1 hy with hy | rfl; exact h2 y hy; exact w0⟩
          · exact .inr ⟨h1, h2, h3, fun y hy hy0 => by rcases (tk y).1 hy with hy | rfl; exact h4 y hy hy0; exact absurd hy0 w0⟩
        clear hz hm okl hx h0 tk G hi w0
        go_wp2_with fail
        go_round
        case rel => exact ⟨k + 1, fs, by omega, by go_num, rfl, HE.out⟩
        case measure => simp [intOf]; omega
    · obtain rfl : c.length = k := by omega
      have HE : Hid (¬ Two t c) := by
        rintro ⟨x, hx, y, hy, hne, hx0, hy0⟩
        have := G.out
        rw [List.take_length] at this
        rcases this with ⟨_, h⟩ | ⟨_, _, _, h⟩
        · exact h x hx hx0
        · exact hne ((h x hx hx0).trans (h y hy hy0).symm)
      clear G
      go_wp2_with fail
      go_ret
      exact ⟨⟨false, rfl, by simpa using HE.out⟩, rfl⟩
theorem LRel.at {w wr : World} {e : TypeId} {A : Option Addr} {n cap : Nat} {l : List Value} (h : LRel w wr e (.slice A n cap) l) {i : Nat} {u : Value} (hu : l[i]? = some u) : ∃ g, A = some ⟨g, 0, none⟩ ∧ w.heap.size ≤ g ∧ wr.cell? ⟨g, i, none⟩ = some u ∧ wr.frozen? ⟨g, i, none⟩ = false ∧ n ≤ cap ∧ cap ≤ 9223372036854775807 ∧
    ∀ x : Value, LRel w (wr.setCell ⟨g, i, none⟩ x) e (.slice A n cap) (l.set i x) := by
  have hi := (List.getElem?_eq_some_iff.1 hu).1
  rcases h.own.2 with ⟨h1, h2⟩ | ⟨g, c, cur, h1, hb, hg, h2, h3, h4, h5⟩
  · omega
  · injection h1 with h1 h6 h7
    subst h1; subst h7
    rw [Nat.mul_one] at h4 h5
    refine ⟨g, rfl, hb, ?_, ?_, by omega, by unfold maxLen at h3; omega, fun x => ⟨⟨by simp, .inr ⟨g, cap, cur.setIfInBounds i x, by rw [List.length_set, ← h6], hb, ?_, by rw [List.length_set]; exact h2, h3, by simp; exact h4, ?_⟩⟩, h.below.setCell hb _⟩⟩
    · unfold World.cell?; rw [hg]
      rw [← h5, List.getElem?_take_of_lt hi] at hu
      simpa using hu
    · unfold World.frozen?; rw [hg]; simp
    · simp only [World.setCell, Array.getElem?_modify, hg, if_true]; simp
    · rw [List.length_set, Nat.mul_one, Array.toList_setIfInBounds, List.take_set, h5]
end Go.Proofs.YtpmdnbdmocdngaaGreat

namespace Go.Proofs.YtpmdnbdmocdngaaGreat
open Go.ChangeShapes Go.WideShapes Go.ChangeAt Go.RowKit
set_option linter.unusedVariables false

theorem u8_wf {a : Int} (h : (Lit.int .u8 a).wf = true) : 0 ≤ a ∧ a ≤ 255 := by
  simp [Lit.wf, IntKind.min, IntKind.max, IntKind.signed, IntKind.bits] at h
  omega
theorem rem_to (a : Int) (h0 : 0 ≤ a) (N : Nat) (hN : 0 < N) : ∃ k : Nat, a.tmod (N : Int) = k ∧ k < N := by
  have h1 := Int.tmod_nonneg (N : Int) h0
  have h2 := Int.tmod_lt_of_pos a (b := (N : Int)) (by omega)
  exact ⟨(a.tmod N).toNat, by omega, by omega⟩
theorem made_row {α : Type} (v : α → Value) (z : α) (k : Nat) : (madeCells #[v z] k).toList = (List.replicate k z).map v := by
  refine List.ext_getElem? fun i => ?_
  rw [List.getElem?_map, List.getElem?_replicate]
  by_cases hi : i < k
  · simp [madeCells, hi, Nat.mod_one]
  · simp [madeCells, hi]
theorem made_at (w : World) (k : Nat) {g : Nat} (hg : w.heap.size = g) : SeqAt (Value.int .i64) (w.alloc (.cells (madeCells #[.int .i64 0] k) 3)) (some ⟨g, 0, none⟩) (List.replicate k 0) := by
  subst hg
  refine ⟨fun i z hz => ⟨_, rfl, ?_⟩⟩
  rw [add_at, World.cell?_alloc_at _ _ _ _ rfl]
  have e : (madeCells #[Value.int .i64 0] k)[i]? = ((List.replicate k (0 : Int)).map (Value.int .i64))[i]? := by rw [← made_row (Value.int .i64)]; simp
  rw [e, List.getElem?_map, hz]; rfl
theorem zeros_unk (k : Nat) : (List.replicate k (0 : Int)).any unk = false := by
  rw [List.any_eq_false]
  intro x hx
  have := List.eq_of_mem_replicate hx
  subst this; decide
theorem fine_zeros {k : Nat} {f : List (List Int)} (h : mayM (k : Int) f = true) : fine (k : Int) f (List.replicate k 0) = true := by
  unfold fine; rw [h, List.length_replicate, zeros_unk]; simp
theorem run_zeros {A : Option Addr} {f : List (List Int)} {fcap k : Nat} (w : World) (hk : k ≤ 65536) (hf : FormAt w A f) (hfl : f.length ≤ 100000) (hcl : ∀ c ∈ f, c.length ≤ 100000) {g : Nat} (hg : w.heap.size = g) :
    Calls Tryz.prog 29 #[.int .i64 (k : Int), .slice A f.length fcap, .slice (some ⟨g, 0, none⟩) k k] (w.alloc (.cells (madeCells #[.int .i64 0] k) 3)) (RunPost (k : Int) f (List.replicate k 0) (w.alloc (.cells (madeCells #[.int .i64 0] k) 3))) := by
  have cr := run_any (A := A) (M := some ⟨g, 0, none⟩) (f := f) (m := List.replicate k 0) (fcap := fcap) (mcap := k) (k : Int) (w.alloc (.cells (madeCells #[.int .i64 0] k) 3)) (by unfold Wf; omega) (hf.keep ((Below.refl _ _).alloc (Nat.le_refl _) _)) hfl hcl (made_at w k hg) (by simp; omega) (fun h => by cases h)
  rw [List.length_replicate] at cr
  exact cr
theorem LRel.draws {w wr : World} {e : TypeId} {v : Value} {l : List Value} (h : LRel w wr e v l) (n : Nat) : LRel w (wr.drewN n) e v l := ⟨h.own, Below.draws h.below n⟩
theorem RowsOK.keep {w w' : World} {news : List Value} {f : List (List Int)} (h : RowsOK w news f) (b : Below w.heap.size w w') : RowsOK w' news f :=
  ⟨h.1, fun i c hc => by obtain ⟨B, cap, h1, h2, h3⟩ := h.2 i c hc; exact ⟨B, cap, h1, h2.keep b, h3⟩⟩
theorem own_form2 {w : World} {base : Nat} {X : Option Addr} {n cap : Nat} {news : List Value} {f : List (List Int)} (h : w.ownsRow base 36 1 (.slice X n cap) n news) (k : RowsOK w news f) (hw : ∀ c ∈ f, ∀ l ∈ c, Wf l) : FormAt w X f := by
  refine ⟨fun i c hc => ?_, fun a ha => ?_, hw⟩
  · obtain ⟨B, bcap, h1, h2, h3⟩ := k.2 i c hc
    have hi := (List.getElem?_eq_some_iff.1 h1).1
    have hn : news.length = n := by have := h.1; simpa using this
    rcases h.2 with ⟨h0, h4⟩ | ⟨g, c2, cur, h0, _, hg, _⟩
    · omega
    · injection h0 with h0 h5 h6; subst h0; subst h6
      refine ⟨_, B, bcap, rfl, ?_, h2, h3⟩
      rw [add_at, World.ownsRow.cellAt h i (by omega), h1]
  · rcases h.2 with ⟨h0, _⟩ | ⟨g, c2, cur, h0, _, hg, _⟩
    · injection h0 with h0; subst h0; cases ha
    · injection h0 with h0; subst h0; injection ha with ha; subst ha; exact lt_of_heap hg
theorem RowsOK.snoc {w : World} {news : List Value} {f : List (List Int)} {B : Option Addr} {cap : Nat} {c : List Int} (h : RowsOK w news f) (hs : SeqAt (Value.int .i64) w B c) (hl : c.length ≤ 9223372036854775807) : RowsOK w (news ++ [.slice B c.length cap]) (f ++ [c]) := by
  refine ⟨by rw [List.length_append, List.length_append, h.1]; rfl, fun i d hd => ?_⟩
  by_cases hi : i < f.length
  · rw [List.getElem?_append_left hi] at hd
    rw [List.getElem?_append_left (by rw [h.1]; exact hi)]; exact h.2 i d hd
  · have hi2 := (List.getElem?_eq_some_iff.1 hd).1
    simp at hi2
    obtain rfl : i = f.length := by omega
    simp at hd; subst hd
    exact ⟨B, cap, by rw [← h.1]; simp, hs, hl⟩
theorem RowsOK.swap {w : World} {news : List Value} {f : List (List Int)} {i j : Nat} {u v : Value} {c d : List Int} (h : RowsOK w news f) (hc : f[i]? = some c) (hd : f[j]? = some d) (hu : news[i]? = some u) (hv : news[j]? = some v) : RowsOK w ((news.set i v).set j u) ((f.set i d).set j c) := by
  refine ⟨by simp [h.1], fun q e he => ?_⟩
  have hi := (List.getElem?_eq_some_iff.1 hc).1
  have hj := (List.getElem?_eq_some_iff.1 hd).1
  by_cases e1 : q = j
  · subst e1
    rw [List.getElem?_set_self (by simp; exact hj)] at he
    rw [List.getElem?_set_self (by simp; rw [h.1]; exact hj)]
    injection he with he; subst he
    obtain ⟨B, cap, h1, h2⟩ := h.2 i _ hc
    rw [hu] at h1; injection h1 with h1
    exact ⟨B, cap, by rw [h1], h2⟩
  · rw [List.getElem?_set_ne (fun k => e1 k.symm)] at he ⊢
    by_cases e2 : q = i
    · subst e2
      rw [List.getElem?_set_self hi] at he
      rw [List.getElem?_set_self (by rw [h.1]; exact hi)]
      injection he with he; subst he
      obtain ⟨B, cap, h1, h2⟩ := h.2 j _ hd
      rw [hv] at h1; injection h1 with h1
      exact ⟨B, cap, by rw [h1], h2⟩
    · rw [List.getElem?_set_ne (fun k => e2 k.symm)] at he ⊢
      exact h.2 q e he
end Go.Proofs.YtpmdnbdmocdngaaGreat

namespace Go.Proofs.YtpmdnbdmocdngaaGreat
open Go.ChangeShapes Go.WideShapes Go.ChangeAt Go.RowKit
set_option linter.unusedVariables false
set_option linter.unusedSimpArgs false

/-- Starting over is as it should be, however far a search over so many numbers and clauses is. -/
def StartOk (n f0 : Nat) : Prop := ∀ (B : Nat) (τ8 : Nat → Nat) (W : World) (p : Nat) (K0 : Nat → Prop) (Mo : (Nat → Bool) → Prop) (d8 d : Sd) (ct : Nat), Lub n f0 ct d → d.tr.length ≤ n → Sr B τ8 W p n d8 → Ru n K0 Mo d8 → 0 ≤ d8.le → d8.le ≤ d.le + 1 → d8.mo = d.mo → d8.cls.length ≤ d.cls.length + 1 → 0 < d8.cls.length → Calls Tryz.prog 101 #[ptr p] W (StPost B τ8 W p n K0 Mo d8)
theorem start_ok_ten {n f0 : Nat} (hn : n ≤ 10) (hf : f0 ≤ 463) : StartOk n f0 := fun B τ8 W p K0 Mo d8 d ct l htr s r h0 h1 h2 _ _ => start_small s r h0 (by
  have a := l.ten hn htr
  have b := l.le
  have c := l.mo.1
  omega)
theorem grant_bd (n : Nat) (b : Int) (h0 : 0 ≤ b) (h1 : b ≤ 9223372036854775807) : 0 ≤ grant n b ∧ grant n b ≤ 9223372036854775807 := by
  unfold grant; split <;> omega
section
variable {A : Option Addr} {f : List (List Int)} {fcap n f0 : Nat} {w : World}
set_option maxHeartbeats 3200000 in
theorem solve_any (b : Int) (hf : FormAt w A f) (hm : mayM (n : Int) f = true) (hn : n ≤ 20) (hfl : f.length ≤ f0) (hf0 : f0 ≤ 100000) (hcl : ∀ c ∈ f, c.length ≤ 100000) (hb : 0 ≤ b) (hb2 : b ≤ 9223372036854775807) (HST : StartOk n f0) :
    Calls Tryz.prog 10 #[.int .i64 (n : Int), .slice A f.length fcap, .int .i64 b] w (SvPost n f b w) := by
  have cm := may_any (n : Int) A f fcap w (by unfold Wf; omega) hf (by omega)
  rw [hm] at cm
  have okf := (may_ok hm hf.wf).2.2 n rfl
  have hno : ¬ b < 0 := by omega
  have CR := Lib.hid (run_zeros (fcap := fcap) w (k := n) (by omega) hf (by omega) hcl rfl)
  have HFI := Lib.hid (fine_zeros hm)
  have HF := Lib.hid hf
  have HOK := Lib.hid okf
  have HCL := Lib.hid hcl
  have HS := Lib.hid HST
  have hmk : (Instr.makeSlice 36 (.int .i64 (n : Int)) (.int .i64 (n : Int))).run Tryz.prog w = .ok (.slice (some ⟨w.heap.size, 0, none⟩) n n) (w.alloc (.cells (madeCells #[.int .i64 0] n) 3)) := run_make_row' (P := Tryz.prog) 36 3 (.int .i64 0) 8 Tryz.underlying36 infoInt rfl .i64 .i64 n (by omega) (by omega) w
  have hba := below_alloc w (.cells (madeCells #[.int .i64 0] n) 3)
  have HBA := Lib.hid hba
  clear hf okf hcl hba hm HST
  go_enter Tryz.func10, Tryz.ntmps10
  go_wp2_with (go_at_call 28; ((with_reducible refine cm.mono ?_); rintro e w' ⟨rfl, rfl⟩))
  (with_reducible refine CR.out.mono ?_)
  rintro e w1 ⟨b1, h⟩
  have B1 := Lib.hid (Below.on HBA.out b1)
  clear b1 CR cm hmk
  rcases h with ⟨h, _⟩ | ⟨_, ans, rfl⟩ | ⟨_, t, A1, cap1, ans, rfl, hs, hnil⟩
  · rw [HFI.out] at h; cases h
  · have HE : Hid (SvPost n f b w (.returned (.tuple #[.int .i64 2, .slice none 0 0, .int .i64 0])) w1) := ⟨B1.out, .inr (.inl ⟨rfl, fun m hml => by
      cases he : evalM m f with
      | false => rfl
      | true =>
        exfalso
        rw [List.length_replicate] at ans
        refine ans _ (u_tv hml) (fun i x hx h0 => ?_) (eval_rests hml HOK.out (by omega) he)
        rw [List.getElem?_replicate] at hx
        split at hx
        · injection hx with hx; exact absurd hx.symm h0
        · cases hx⟩)⟩
    clear ans
    go_wp2_with fail
    go_ret3
    exact HE.out
  · rw [List.length_replicate] at ans
    have CN := Lib.hid (newSearch_any (fcap := fcap) (kcap := cap1) (HF.out.keep B1.out) HOK.out (by omega) HCL.out hs ans.1 ans.2.2.1 (by omega))
    have ANS := Lib.hid ans
    clear hs ans hnil
    go_wp2_with fail
    (with_reducible refine CN.out.mono ?_)
    rintro e w2 ⟨τ, p, d, w0, rfl, kn, s2, b2, R, hwo, cov, hl⟩
    have R1 := R.rn (f0 := f0) (Nat.le_trans hl hfl)
    have hg := grant_bd n b hb hb2
    have CG := Lib.hid (fun W => granted_any n b W (by omega) hb hb2)
    have CU := Lib.hid (drun_any s2 R1 hn hf0 (grant n b) hg.1 hg.2 (Lib.hid (fun τ8 W d8 d ct a1 a2 a3 a4 a5 a6 a7 a8 a9 => HS.out _ τ8 W p _ _ d8 d ct a1 a2 a3 a4 a5 a6 a7 a8 a9)))
    have hlow : ∀ x, x < w1.heap.size → τ x = 0 := by obtain ⟨pcs, s⟩ := s2; exact s.low
    have HLOW := Lib.hid hlow
    have B2 := Lib.hid (Below.on B1.out b2)
    have HSZ := Lib.hid b2.size
    have KN := Lib.hid kn
    have COV := Lib.hid cov
    have HNE := Lib.hid (show ¬ (d.cls = [] ∧ d.hp = []) → f ≠ [] from fun h e => by
      subst e
      have e1 : d.cls = [] := List.eq_nil_of_length_eq_zero (by simpa using hl)
      exact h ⟨e1, R.em e1⟩)
    obtain ⟨gr, hgr⟩ : ∃ gr, grant n b = gr := ⟨_, rfl⟩
    have HGR := Lib.hid hgr
    rw [hgr] at CG CU
    clear s2 R1 R kn cov hlow b2 hl hwo CN hgr hg
    go_wp2_with (go_at_call 32; ((with_reducible refine (CG.out _).mono ?_); rintro e w' ⟨rfl, rfl⟩))
    (with_reducible refine CU.out.mono ?_)
    rintro e w3 ⟨τ3, d3, s3, t3, L3, T3, h3⟩
    have B3 := Lib.hid (B2.out.trans ((t3.below HSZ.out HLOW.out).mono B1.out.size))
    rcases h3 with ⟨rfl, hk, hall⟩ | ⟨rfl, hun⟩ | ⟨rfl, hg, hne⟩
    · have CT := Lib.hid (truths_any s3 L3)
      have HEV := Lib.hid (sat_eval HOK.out (by omega) T3 COV.out hk hall)
      clear s3 t3 L3 T3 hk hall CU
      go_wp2_with fail
      (with_reducible refine CT.out.mono ?_)
      rintro e w4 ⟨rfl, tr⟩
      have HE : Hid (SvPost n f b w (.returned (.tuple #[.int .i64 1, .slice (some ⟨w3.heap.size, 0, none⟩) n n, .int .i64 0])) w4) := ⟨Below.on B3.out tr.below, .inl ⟨trs d3.wo n, w3.heap.size, rfl, B3.out.size, by rw [← trs_arr]; exact tr.has, trs_len _ _, HEV.out⟩⟩
      clear tr CT
      go_wp2_with fail
      go_ret3
      exact HE.out
    · have HE : Hid (SvPost n f b w (.returned (.tuple #[.int .i64 2, .slice none 0 0, .int .i64 0])) w3) := ⟨B3.out, .inr (.inl ⟨rfl, fun m hml => unsat_eval HOK.out (by omega) ANS.out KN.out hun m hml⟩)⟩
      clear s3 t3 L3 T3 hun CU
      go_wp2_with fail
      go_ret3
      exact HE.out
    · have HE : Hid (SvPost n f b w (.returned (.tuple #[.int .i64 3, .slice none 0 0, .int .i64 0])) w3) := ⟨B3.out, .inr (.inr ⟨rfl, by rw [HGR.out]; exact hg, HNE.out hne, fun hmem => by rcases ANS.out.2.2.1 [] hmem with ⟨x, hx, _⟩ | ⟨x, hx, _⟩ <;> cases hx⟩)⟩
      clear s3 t3 L3 T3 hg hne CU
      go_wp2_with fail
      go_ret3
      exact HE.out
/-- Refused. -/
theorem solve_no (k b : Int) (hk : Wf k) (hf : FormAt w A f) (hfl : f.length ≤ 9223372036854775807) (h : b < 0 ∨ mayM k f = false) :
    Calls Tryz.prog 10 #[.int .i64 k, .slice A f.length fcap, .int .i64 b] w fun e w' => e = .returned (.tuple #[.int .i64 0, .slice none 0 0, .int .i64 1]) ∧ w = w' := by
  have cm := may_any k A f fcap w hk hf hfl
  by_cases hb : b < 0
  · clear hf h cm
    go_enter Tryz.func10, Tryz.ntmps10
    go_wp2_with fail
    go_ret3
    exact ⟨rfl, rfl⟩
  · rw [h.resolve_left hb] at cm
    clear hf h
    go_enter Tryz.func10, Tryz.ntmps10
    go_wp2_with (go_at_call 28; ((with_reducible refine cm.mono ?_); rintro e w' ⟨rfl, rfl⟩))
    go_ret3
    exact ⟨rfl, rfl⟩
end
end Go.Proofs.YtpmdnbdmocdngaaGreat
