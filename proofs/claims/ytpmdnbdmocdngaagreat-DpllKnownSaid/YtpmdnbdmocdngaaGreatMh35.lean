/-
  Parts of the proof, joined: DpllTw, DpllNp, DpllNn.
-/
import Derived.Test.YtpmdnbdmocdngaaGreatMh24
import Derived.Test.YtpmdnbdmocdngaaGreatMh09
import Derived.Lib.JoinLaws
import Derived.Deep.RegionHeld3
import Derived.Test.YtpmdnbdmocdngaaGreatMh06
import Derived.Laws.Rows
import Derived.Test.YtpmdnbdmocdngaaGreatMh30

namespace Go.Proofs.YtpmdnbdmocdngaaGreat
open Go.ChangeShapes Go.WideShapes Go.ChangeAt Go.RowKit
set_option linter.unusedVariables false
set_option linter.unusedSimpArgs false

section
variable {B : Nat} {τ : Nat → Nat} {w : World} {p n : Nat} {d : Sd} {K0 : Nat → Prop} {Mo : (Nat → Bool) → Prop}
set_option maxHeartbeats 6400000 in
set_option maxRecDepth 4000 in
theorem take_any (h : Sr B τ w p n d) (R : Rdy n K0 Mo d) {A : Option Addr} {c : List Int} {cap : Nat} (hc : SeqAt (Value.int .i64) w A c) (hw : ∀ l ∈ c, Wf l) (hlen : c.length ≤ 100000) (hlit : ∀ x ∈ row c, x ≠ 0 ∧ -(n : Int) ≤ x ∧ x ≤ n) (hrest : taut (row c) = true ∨ (∃ x ∈ row c, wv d.wo (litOf x) = 1) ∨ 2 ≤ (opn d.wo (row c)).length) (hsem : ∀ m, Mo m → taut (row c) = true ∨ ∃ x ∈ row c, lt_ m (litOf x) = true) (hneg : ∀ m, Mo m → ∀ q, q < 2 * n → K0 q → lt_ m q = true) (hcls : d.cls.length + 1 < 2147483648) :
    Calls Tryz.prog 63 #[ptr p, .slice A c.length cap] w (TkPost B τ w p n K0 Mo d (row c) (taut (row c))) := by
  have hn := R.I.L.nb
  have KN := Lib.hid (normal_any A c cap w hc hw hlen)
  have hrl : (row c).length ≤ 100000 := Nat.le_trans (row_len c) hlen
  have hnd : (row c).Nodup := ((row_spec c).1.imp fun {a b} h e => by subst e; rw [ltL_irr] at h; cases h)
  have HR := Lib.hid h
  have HRD := Lib.hid R
  have hB := h
  have hlb : B ≤ w.heap.size := by obtain ⟨pcs, s⟩ := hB; exact s.base
  clear h R hc hB
  go_enter Tryz.func63, Tryz.ntmps63
  go_wp2_with fail
  (with_reducible refine KN.out.mono ?_)
  rintro e w1 ⟨A1, cap1, rfl, S1, b1, own1⟩
  have B1 := Lib.hid b1
  have S1 := Lib.hid S1
  clear KN own1
  cases ht : taut (row c) with
  | true =>
    have HE : Hid (∀ W : World, W.heap = w1.heap → W.os = w1.os → W.tape = w1.tape → W.output = w1.output → TkPost B τ w p n K0 Mo d (row c) (taut (row c)) (.returned (.tuple #[])) W) := fun W e1 e2 e3 e4 => ⟨rfl, τ, d, (HR.out.below b1).alike e1 e2 e3 e4, (Stp.of_below τ b1).alike e1 e2 e3 e4, HRD.out, rfl, .inl ⟨rfl, .inl ht⟩⟩
    rw [nrm_yes ht]
    clear hrest hsem hneg hlit ht b1
    go_wp2_with fail
    go_end0
    exact HE.out _ rfl rfl rfl rfl
  | false =>
    rw [nrm_no ht] at S1 ⊢
    have HREST := Lib.hid (show (∃ x ∈ row c, wv d.wo (litOf x) = 1) ∨ 2 ≤ (opn d.wo (row c)).length by rw [ht] at hrest; exact hrest.resolve_left (by decide))
    have HSEM := Lib.hid (show ∀ m, Mo m → ∃ x ∈ row c, lt_ m (litOf x) = true from fun m hm => (hsem m hm).resolve_left (by rw [ht]; decide))
    have HNEG := Lib.hid hneg
    have HLIT := Lib.hid hlit
    have HND := Lib.hid hnd
    obtain ⟨r, hr⟩ : ∃ r, row c = r := ⟨_, rfl⟩
    have HPOST := Lib.hid (show ∀ e W, TkPost B τ w p n K0 Mo d r false e W → TkPost B τ w p n K0 Mo d (row c) (taut (row c)) e W from fun e W h => by rw [ht, hr]; exact h)
    clear hrest hsem hneg hlit ht hnd
    rw [hr] at S1 HREST HSEM HLIT HND hrl ⊢
    clear hr
    have S1 : Hid (SeqAt (Value.int .i64) w1 A1 r) := S1
    have hmk : ∀ W : World, (Instr.makeSlice 123 (.int .i64 0) (.int .i64 (r.length : Int))).run Tryz.prog W = .ok (.slice (some ⟨W.heap.size, 0, none⟩) 0 r.length) (W.alloc (.cells (madeCells #[.int .i32 0] r.length) 138)) := fun W => run_make_room (P := Tryz.prog) 123 138 (.int .i32 0) 4 Tryz.underlying123 infoLit rfl .i64 .i64 r.length (by omega) (by omega) W
    have L0 : Hid (LRel w1 (w1.alloc (.cells (madeCells #[.int .i32 0] r.length) 138)) 138 (.slice (some ⟨w1.heap.size, 0, none⟩) 0 r.length) (n32 (opn d.wo (r.take 0)))) := ⟨World.ownsRow_made w1 _ _ (Nat.le_refl _) (by unfold maxLen; omega) (by rw [← Array.length_toList, toList_madeCells_one]; simp), (Below.refl _ _).alloc (Nat.le_refl _) _⟩
    obtain ⟨i0, hi0, hz0, hz1, hz2⟩ := info_parts infoLit
    have HI := Lib.hid (show _ ∧ _ ∧ _ ∧ _ from ⟨hi0, hz0, hz1, hz2⟩)
    clear hi0 hz0 hz1 hz2 b1
    go_wp2_with fail
    generalize w1.alloc (.cells (madeCells #[.int .i32 0] r.length) 138) = w2 at *
    go_loopw [5, 22] (fun lv iv wr => ∃ (k : Nat) (A2 : Option Addr) (c2 : Nat), k ≤ r.length ∧ iv = .int .i64 k ∧ lv = .slice A2 (opn d.wo (r.take k)).length c2 ∧ Hid (LRel w1 wr 138 (.slice A2 (opn d.wo (r.take k)).length c2) (n32 (opn d.wo (r.take k)))) ∧ Hid (∀ x ∈ r.take k, wv d.wo (litOf x) ≠ 1)) (fun _ iv _ => r.length - (intOf iv).toNat)
    case atStart => exact ⟨0, some ⟨w1.heap.size, 0, none⟩, r.length, Nat.zero_le _, rfl, rfl, L0, fun x hx => by simp at hx⟩
    case round =>
      obtain ⟨k, A2, c2, hk, rfl, rfl, LR, NO⟩ := hrel
      clear L0 hmk
      by_cases hlt : k < r.length
      · obtain ⟨x, hx⟩ : ∃ x, r[k]? = some x := ⟨_, List.getElem?_eq_getElem hlt⟩
        obtain ⟨x0, x1, x2⟩ := HLIT.out x (List.mem_of_getElem? hx)
        have hq := litOf_lt x0 x1 x2
        obtain ⟨a, rfl, hca⟩ := S1.out.get k x hx
        have za : a.block < w1.heap.size := by have := lt_of_cell hca; rwa [add_block] at this
        have xk : wr.cell? (a.add k) = some (.int .i64 x) := (LR.out.below.cell (p := a.add k) (by rw [add_block]; exact za)).trans hca
        have RW := Lib.hid (HR.out.below (B1.out.trans (LR.out.below.mono B1.out.size)))
        have CL := lit_any x wr x0 (by omega) (by omega)
        obtain ⟨g2, c3, a2⟩ := RW.out.at_wo (by rw [HRD.out.I.L.wo]; omega)
        have hyw : d.wo[litOf x]? = some (wv d.wo (litOf x)) := wv_at (by rw [HRD.out.I.L.wo]; exact hq)
        have f3 := a2.len_wo.1
        have l3 := a2.len_wo.2
        have k3 := a2.cap
        have x3 := a2.wo hyw
        have z3 := a2.lt
        have zp := RW.out.plt
        have b3 : (0 : Int) ≤ (litOf x : Int) := by omega
        have b4 : (litOf x : Int) < (d.wo.length : Int) := by rw [HRD.out.I.L.wo]; omega
        have b5 : (0 : Int) ≤ (k : Int) := by omega
        have b6 : (k : Int) < (r.length : Int) := by omega
        have HX := Lib.hid hx
        obtain ⟨yf, hyf⟩ : ∃ z, wv d.wo (litOf x) = z := ⟨_, rfl⟩
        have HYF := Lib.hid hyf
        have HYR := Lib.hid (show yf = -1 ∨ yf = 0 ∨ yf = 1 by rw [← hyf]; exact HRD.out.I.T.w.rng _)
        have HTK := Lib.hid (opn_take (wo := d.wo) hx)
        have HN1 := Lib.hid (show yf ≠ 1 → ∀ x ∈ r.take (k + 1), wv d.wo (litOf x) ≠ 1 from fun hy z hz => by
          obtain ⟨h1, h2⟩ := List.getElem?_eq_some_iff.1 hx
          rw [List.take_succ_eq_append_getElem h1, h2] at hz
          rcases List.mem_append.1 hz with hz | hz
          · exact NO.out z hz
          · rw [List.mem_singleton.1 hz, hyf]; exact hy)
        rw [hyf] at x3
        clear hx hyw a2 hyf hca
        generalize hql : litOf x = q at *
        rcases HYR.out with hy | hy | hy
        all_goals have HY := Lib.hid hy
        · have q1 : ¬ yf = 0 := by rw [hy]; decide
          have q2 : ¬ yf = 1 := by rw [hy]; decide
          clear hy
          go_wp2_with (go_at_call 62; ((with_reducible refine CL.mono ?_); rintro e w3 ⟨rfl, rfl⟩))
          go_roundw
          case rel => exact ⟨k + 1, A2, c2, by omega, by go_num, by rw [HTK.out, if_neg (by rw [HYF.out]; exact q1), List.append_nil], by rw [HTK.out, if_neg (by rw [HYF.out]; exact q1), List.append_nil]; exact LR.out, HN1.out q2⟩
          case measure => simp [intOf]; omega
        · have q1 : (yf == 0) = true := by rw [hy]; rfl
          have q2 : ¬ yf = 1 := by rw [hy]; decide
          have Q1 := Lib.hid (show yf = 0 from hy)
          clear hy
          have hle := opn_len (wo := d.wo) (r := r.take k)
          have hle2 : (r.take k).length ≤ r.length := by rw [List.length_take]; omega
          generalize opn d.wo (r.take k) = l at *
          have HO : Hid (wr.ownsRow w1.heap.size 138 1 (.slice A2 l.length c2) l.length (n32 l)) := by have := LR.out.own; rw [List.length_map] at this; exact this
          have HS : Hid (w1.heap.size ≤ wr.heap.size) := LR.out.below.size
          go_wp2_with (first
            | (go_at_call 62; ((with_reducible refine CL.mono ?_); rintro e w3 ⟨rfl, rfl⟩))
            | (at_builtin; refine wpList_append_lies _ rfl _ _ _ rfl w1.heap.size 138 i0 _ 1 4 Tryz.underlying123 HI.out.1 HI.out.2.1 HI.out.2.2.1 HI.out.2.2.2 rfl (by omega) (.slice A2 l.length c2) l.length (n32 l) rfl (HO.out.alloc _) ⟨wr.heap.size, 0, none⟩ 1 1 [.int .i32 (q : Int)] rfl rfl (World.news_of_block (cs := #[.int .i32 (q : Int)]) (t := 138) (fr := (0, 0)) (new_heap wr _)) (by simp [Value.oneCell']) (by omega) (by unfold maxLen; omega) (by omega) (by simp; exact Nat.le_trans HS.out (Nat.le_succ _)) (wr.heap.size + 1) (by simp) ?_; intro g1 c1 wp hown1 hg1 hat1 hlt1; have HO1 := Lib.hid hown1; have HG1 := Lib.hid hg1; clear hown1 hg1 hat1 hlt1))
          go_roundw
          case rel => exact ⟨k + 1, some ⟨g1, 0, none⟩, c1, by omega, by go_num, by rw [HTK.out, if_pos (by rw [HYF.out]; exact Q1.out), List.length_append]; rfl, by
            rw [HTK.out, if_pos (by rw [HYF.out]; exact Q1.out)]
            have hx := LR.out.more (x := .int .i32 (q : Int)) (g := g1) (cap := c1) (by rw [List.length_map]; exact HO1.out) HG1.out
            simp only [List.length_map, List.length_append, List.map_append] at hx ⊢
            exact hx, HN1.out q2⟩
          case measure => simp [intOf]; omega
        · have q1 : ¬ yf = 0 := by rw [hy]; decide
          have q2 : (yf == 1) = true := by rw [hy]; rfl
          have HE : Hid (TkPost B τ w p n K0 Mo d r false (.returned (.tuple #[])) wr) := ⟨rfl, τ, d, RW.out, Stp.of_below τ (B1.out.trans (LR.out.below.mono B1.out.size)), HRD.out, rfl, .inl ⟨rfl, .inr ⟨x, List.mem_of_getElem? HX.out, by rw [hql, HYF.out]; exact hy⟩⟩⟩
          clear hy
          go_wp2_with (go_at_call 62; ((with_reducible refine CL.mono ?_); rintro e w3 ⟨rfl, rfl⟩))
          go_end0
          exact HPOST.out _ _ HE.out
      · obtain rfl : k = r.length := by omega
        have HT : r.take r.length = r := List.take_length
        rw [HT] at LR NO ⊢
        have hl2 := HREST.out.resolve_left (fun ⟨x, hx, h1⟩ => NO.out x hx h1)
        have HC := Lib.hid (HRD.out.claim HND.out HLIT.out NO.out hl2 HSEM.out HNEG.out hcls)
        have hle := opn_len (wo := d.wo) (r := r)
        have HMEM := Lib.hid (show ∀ q ∈ opn d.wo r, ∃ x ∈ r, litOf x = q from fun q hq => by obtain ⟨x, a, b, _⟩ := opn_mem hq; exact ⟨x, a, b⟩)
        clear HREST HSEM HNEG HLIT HND NO HT HI i0
        generalize opn d.wo r = l at *
        have RW := Lib.hid (HR.out.below (B1.out.trans (LR.out.below.mono B1.out.size)))
        have hown : wr.ownsRow w1.heap.size 138 1 (.slice A2 l.length c2) l.length (n32 l) := by have := LR.out.own; rwa [List.length_map] at this
        obtain ⟨g, rfl, hgs⟩ : ∃ g, A2 = some ⟨g, 0, none⟩ ∧ w1.heap.size ≤ g := by
          rcases hown.2 with ⟨h0, h1⟩ | ⟨g, c', cur, h0, hb, _⟩
          · omega
          · injection h0 with h0 _ _; exact ⟨g, h0, hb⟩
        have hlc : l.length ≤ c2 ∧ c2 ≤ 9223372036854775807 := by
          rcases hown.2 with ⟨h0, h1⟩ | ⟨g, c', cur, h0, hb, _, h1, h2, _⟩
          · omega
          · injection h0 with _ _ h5; subst h5; exact ⟨h1, h2⟩
        obtain ⟨τ1, hτ1⟩ : ∃ τ1 : Nat → Nat, τ1 = fun b => if w1.heap.size ≤ b then 0 else τ b := ⟨_, rfl⟩
        have bw : Below w.heap.size w wr := B1.out.trans (LR.out.below.mono B1.out.size)
        have hws := B1.out.size
        have k1 : Step (fun _ => False) τ τ1 w wr := ⟨(Step.of_below (fun _ => False) τ bw).kept, fun b hb => by rw [hτ1]; exact if_neg (by omega)⟩
        have R1 : Sr B τ1 wr p n d := by obtain ⟨pcs, s⟩ := HR.out; exact ⟨pcs, s.step k1 (fun _ _ h => h)⟩
        have hrn : RowN τ1 0 wr 138 1 (.slice (some ⟨g, 0, none⟩) l.length c2) l.length (n32 l) := by
          refine ⟨⟨hown.1, hown.2.imp id ?_⟩, fun b hb => ?_⟩
          · rintro ⟨g', c', cur, a, b, c⟩
            exact ⟨g', c', cur, a, Nat.zero_le _, c⟩
          · have : g = b := by simpa [Value.ownBlock] using hb
            subst this; rw [hτ1]; exact if_pos hgs
        obtain ⟨q0, h0⟩ : ∃ q, l[0]? = some q := ⟨_, List.getElem?_eq_getElem (by omega)⟩
        obtain ⟨q1, h1⟩ : ∃ q, l[1]? = some q := ⟨_, List.getElem?_eq_getElem (by omega)⟩
        have hq0 := (HC.out.2.1 q0 (List.mem_of_getElem? h0)).1
        have hq1 := (HC.out.2.1 q1 (List.mem_of_getElem? h1)).1
        have hgq := HRD.out.gq
        have CM := Lib.hid (claim_any R1 hn (by omega) hrn (fun b hb => by
          have : g = b := by simpa [Value.ownBlock] using hb
          omega) 0 h0 h1 hq0 hq1 (by omega) (by omega) (fun q => by have := HRD.out.I.W.all q; omega))
        obtain ⟨D, hD⟩ : ∃ D, D = d.claimed l 0 q0 q1 (.slice (some ⟨g, 0, none⟩) l.length c2) := ⟨_, rfl⟩
        have HIV := Lib.hid (show Iv n K0 Mo D by rw [hD]; exact HRD.out.I.claim hl2 HC.out.1 HC.out.2.1 HC.out.2.2 (by omega) h0 h1)
        have HDD := Lib.hid (show D.cls = d.cls ++ [⟨l, 0, 2⟩] ∧ D.gk = d.cls.length ∧ D.gu = .slice (some ⟨g, 0, none⟩) l.length c2 ∧ D.hp = d.hp ∧ D.pl = d.pl ∧ D.sc = d.sc ∧ D.wo = d.wo by rw [hD]; exact ⟨rfl, rfl, rfl, rfl, rfl, rfl, rfl⟩)
        have HRDY := Lib.hid (show ∀ hp pl, QOk n hp pl → Qc { D with hp := hp, pl := pl } → Rdy n K0 Mo { D with hp := hp, pl := pl } from fun hp pl hq hqc => by
          have r := HRD.out
          refine ⟨HIV.out.queue hp pl, hq, hqc, ?_, ?_, ?_, ?_, ?_, ?_, ?_, ?_, ?_, ?_, ?_, ?_, ?_, fun e => ?_⟩ <;> (try rw [hD])
          · exact r.tr
          · exact r.ma
          · exact r.nx
          · exact r.lk
          · exact r.gq
          · exact r.se
          · exact r.nu
          · exact r.pc
          · exact r.pt
          · exact r.pu
          · exact r.le
          · exact r.mo
          · exact r.dpn
          · exfalso
            have e : D.cls = [] := e
            rw [hD] at e
            have e : d.cls ++ [(⟨l, 0, 2⟩ : Cl)] = [] := e
            simp at e)
        have HT2 := Lib.hid (show ∀ (τ2 : Nat → Nat) (w3 : World), Stg g τ1 τ2 wr w3 → Stp τ τ2 w w3 from fun τ2 w3 k => by
          have e1 : ∀ b, b < w.heap.size → τ b = 0 → τ1 b = 0 := fun b hb h => by rw [hτ1]; show (if w1.heap.size ≤ b then 0 else τ b) = 0; split; rfl; exact h
          exact ⟨⟨k.os.trans bw.os, k.tape.trans bw.tape, k.output.trans bw.output, Nat.le_trans bw.size k.size, fun b hb hn => by
            have h0 : τ b = 0 := Classical.byContradiction hn
            exact (k.block b (Nat.lt_of_lt_of_le hb bw.size) (e1 b hb h0) (by omega)).trans (bw.block b hb)⟩, fun b hb h0 => k.tag b (Nat.lt_of_lt_of_le hb bw.size) (e1 b hb h0) (by omega)⟩)
        rw [← hD] at CM
        have HLT := Lib.hid (show ∀ q ∈ l, q < 2 * n from fun q hq => (HC.out.2.1 q hq).1)
        clear RW hown R1 hrn h0 h1 hD k1 hτ1 LR
        go_wp2_with fail
        (with_reducible refine CM.out.mono ?_)
        rintro e w3 ⟨rfl, τ2, g', hgg, hs, ht⟩
        injection hgg with hgg; injection hgg with hgg
        subst hgg
        have R3 := Lib.hid (show Sr B τ2 w3 p n { D with hp := d.hp, pl := d.pl } by
          have e : ({ D with hp := d.hp, pl := d.pl } : Sd) = D := by rw [← HDD.out.2.2.2.1, ← HDD.out.2.2.2.2.1]
          rw [e]; exact hs)
        have T3 := Lib.hid (HT2.out _ _ ht)
        clear hs ht CM HT2 HR
        go_wp2_with fail
        go_loopw [49] (fun iv wr => ∃ (k : Nat) (hp : List Nat) (pl : List Int) (τ' : Nat → Nat), k ≤ l.length ∧ iv = .int .i64 k ∧ Hid (Sr B τ' wr p n { D with hp := hp, pl := pl }) ∧ Hid (Stp τ τ' w wr) ∧ Hid (QOk n hp pl) ∧ Hid (∀ u, u ∈ hp ↔ u ∈ d.hp ∨ ∃ j q, j < k ∧ l[j]? = some q ∧ q / 2 = u)) (fun iv _ => l.length - (intOf iv).toNat)
        case atStart => exact ⟨0, d.hp, d.pl, τ2, Nat.zero_le _, rfl, R3, T3, HRD.out.Q, fun u => ⟨.inl, fun h => h.elim id fun ⟨j, _, hj, _⟩ => by omega⟩⟩
        case round =>
          obtain ⟨k, hp, pl, τ', hk2, rfl, R, T, Q, M⟩ := hrel
          clear R3 T3
          by_cases hlt : k < l.length
          · obtain ⟨q, hq⟩ : ∃ q, l[k]? = some q := ⟨_, List.getElem?_eq_getElem hlt⟩
            have hqn := HLT.out q (List.mem_of_getElem? hq)
            have hck : ({ D with hp := hp, pl := pl } : Sd).cls[d.cls.length]? = some ⟨l, 0, 2⟩ := by show D.cls[d.cls.length]? = _; rw [HDD.out.1]; simp
            obtain ⟨ga, capa, gl, capl, ca⟩ := R.out.claim hck (by show 0 < l.length; omega)
            have eg : gl = g := by
              have e := R.out.cpinned ca hck HDD.out.2.1
              have e2 : D.gu = .slice (some ⟨gl, 0, none⟩) l.length capl := e
              rw [HDD.out.2.2.1] at e2
              injection e2 with e2 _ _; injection e2 with e2; injection e2 with e2
              exact e2.symm
            subst eg
            have xk : wr.cell? ⟨gl, k, none⟩ = some (.int .i32 (q : Int)) := ca.cell k q hq
            have zl := ca.llt
            have b1 : (0 : Int) ≤ (k : Int) := by omega
            have b2 : (k : Int) < (l.length : Int) := by omega
            have CN := Lib.hid (fun W => lnum_any q W (by omega))
            have CA := Lib.hid (fun (W : World) (r : Sr B τ' W p n { D with hp := hp, pl := pl }) => qadd_any r (by exact Q.out) hn (show D.sc.length = n by rw [HDD.out.2.2.2.2.2.1]; exact HRD.out.I.L.sc) (v := q / 2) (by omega))
            have f12 : wr.cell? ⟨p, 12, none⟩ = some (.int .i64 D.ra) := R.out.get_ra
            have zp := R.out.plt
            have HQ := Lib.hid hq
            obtain ⟨v, hv⟩ : ∃ v, q / 2 = v := ⟨_, rfl⟩
            have HV := Lib.hid hv
            rw [hv] at CN CA
            clear ca hck hq hv
            go_wp2_with fail
            go_region_held3 (fun w' => w'.cell? ⟨p, 12, none⟩ = some (.int .i64 D.ra)) (go_keep) (first
              | (go_at_call 90; (with_reducible refine (CN.out _).mono ?_); rintro e we ⟨rfl, rfl⟩)
              | (go_at_call 89; (with_reducible refine (CA.out _ (by exact R.out.alike rfl rfl rfl rfl)).mono ?_); rintro e we ⟨rfl, τ3, hp2, pl2, k1, k2, k3, k4⟩; have R3 := Lib.hid k1; have S3 := Lib.hid ((T.out.alike (W := wr.drew) rfl rfl rfl rfl).trans k2); have Q3 := Lib.hid k3; have M3 := Lib.hid k4; have f12 : we.cell? ⟨p, 12, none⟩ = some (.int .i64 D.ra) := R3.out.get_ra; have zp := R3.out.plt; clear k1 k2 k3 k4))
            have HM : Hid (∀ u, u ∈ hp2 ↔ u ∈ d.hp ∨ ∃ j q, j < k + 1 ∧ l[j]? = some q ∧ q / 2 = u) := fun u => by
              rw [M3.out u]
              constructor
              · rintro (rfl | h)
                · exact .inr ⟨k, q, by omega, HQ.out, HV.out⟩
                · rcases (M.out u).1 h with h | ⟨j, z, a, b⟩
                  · exact .inl h
                  · exact .inr ⟨j, z, by omega, b⟩
              · rintro (h | ⟨j, z, a, b, c⟩)
                · exact .inr ((M.out u).2 (.inl h))
                · by_cases e : j = k
                  · subst e
                    have := HQ.out
                    rw [b] at this; injection this with this; subst this
                    exact .inl (by rw [← c]; exact HV.out)
                  · exact .inr ((M.out u).2 (.inr ⟨j, z, by omega, b, c⟩))
            clear M3 M R
            go_wp2_with fail
            go_roundw
            case rel => exact ⟨k + 1, hp2, pl2, τ3, by omega, by go_num, R3, S3, Q3, HM⟩
            case measure => simp [intOf]; omega
          · obtain rfl : k = l.length := by omega
            have HE : Hid (TkPost B τ w p n K0 Mo d r false (.returned (.tuple #[])) wr) := by
              refine ⟨rfl, τ', _, R.out, T.out, HRDY.out hp pl Q.out fun i c q hi hq h0 => ?_, HDD.out.2.2.2.2.2.2, .inr ⟨l, 2, HDD.out.1, HMEM.out⟩⟩
              have hi : D.cls[i]? = some c := hi
              have h0 : wv D.wo q = 0 := h0
              show q / 2 ∈ hp
              rw [HDD.out.1] at hi
              rw [HDD.out.2.2.2.2.2.2] at h0
              rw [M.out]
              rcases snoc_cases hi with ⟨_, hi⟩ | ⟨_, rfl⟩
              · exact .inl (HRD.out.C i c q hi hq h0)
              · obtain ⟨j, hj⟩ := List.getElem?_of_mem (show q ∈ l from hq)
                exact .inr ⟨j, q, (List.getElem?_eq_some_iff.1 hj).1, hj, rfl⟩
            go_wp2_with fail
            go_end0
            exact HPOST.out _ _ HE.out
end
end Go.Proofs.YtpmdnbdmocdngaaGreat

namespace Go.Proofs.YtpmdnbdmocdngaaGreat
open Go.ChangeShapes Go.WideShapes Go.ChangeAt Go.RowKit
set_option linter.unusedVariables false
set_option linter.unusedSimpArgs false

theorem npace_any (w : World) : Calls Tryz.prog 61 #[] w fun e w' => e = .returned (.agg #[.int .i64 0, .int .i64 1, .int .i64 1, .int .i64 0, .int .i64 2000]) ∧ Below w.heap.size w w' := by
  go_enter Tryz.func61, Tryz.ntmps61
  go_wp2_with fail
  refine bodyPost_ret (results_cell_row rfl _ _ w.heap.size _ _ _ _ rfl (heap_alloc_new w _) Tryz.underlying132 rfl (by kernel_rfl)) rfl ?_
  exact ⟨rfl, (Below.refl _ _).alloc (Nat.le_refl _) _⟩
end Go.Proofs.YtpmdnbdmocdngaaGreat

namespace Go.Proofs.YtpmdnbdmocdngaaGreat
open Go.ChangeShapes Go.WideShapes Go.ChangeAt Go.RowKit
set_option linter.unusedVariables false
set_option linter.unusedSimpArgs false

theorem three_at (w : World) (X A B : Obj) : (((w.alloc X).alloc A).alloc B).drew.heap[w.heap.size]? = some X ∧ (((w.alloc X).alloc A).alloc B).drew.heap[w.heap.size + 1]? = some A ∧ (((w.alloc X).alloc A).alloc B).drew.heap[w.heap.size + 1 + 1]? = some B ∧ Below w.heap.size w (((w.alloc X).alloc A).alloc B).drew := by
  refine ⟨?_, ?_, ?_, ?_⟩
  · show (((w.alloc X).alloc A).alloc B).heap[w.heap.size]? = _
    rw [alloc_other (by simp; omega), alloc_other (by simp)]; exact new_heap w X
  · show (((w.alloc X).alloc A).alloc B).heap[w.heap.size + 1]? = _
    rw [alloc_other (by simp)]
    have := new_heap (w.alloc X) A
    simpa using this
  · show (((w.alloc X).alloc A).alloc B).heap[w.heap.size + 1 + 1]? = _
    have := new_heap ((w.alloc X).alloc A) B
    simpa using this
  · exact Below.draws ((((Below.refl _ _).alloc (Nat.le_refl _) _).alloc (by simp) _).alloc (by simp; omega) _) 1
def NnPost (n : Nat) (w : World) (e : Ending) (w' : World) : Prop := ∃ gs gc : Nat, e = .returned (.agg #[.slice (some ⟨gs, 0, none⟩) n n, .slice none 0 0, .slice (some ⟨gc, 0, none⟩) (n + 1) (n + 1), .int .i64 0]) ∧ Below w.heap.size w w' ∧ w.heap.size ≤ gs ∧ w.heap.size ≤ gc ∧ gs ≠ gc ∧ HasB w' gs 4 (madeCells #[.bool false] n) ∧ HasB w' gc 3 (madeCells #[.int .i64 0] (n + 1))
set_option maxHeartbeats 1600000 in
theorem nnotes_any (n : Nat) (w : World) (hn : n ≤ 65536) : Calls Tryz.prog 60 #[.int .i64 (n : Int)] w (NnPost n w) := by
  have hmkB : ∀ w, (Instr.makeSlice 25 (.int .i64 (n : Int)) (.int .i64 (n : Int))).run Tryz.prog w = .ok (.slice (some ⟨w.heap.size, 0, none⟩) n n) (w.alloc (.cells (madeCells #[.bool false] n) 4)) := fun w => run_make_row' (P := Tryz.prog) 25 4 (.bool false) 1 Tryz.underlying25 (by kernel_rfl) rfl .i64 .i64 n (by omega) (by omega) w
  have hmkI : ∀ w, (Instr.makeSlice 36 (.int .i64 ((n : Int) + 1)) (.int .i64 ((n : Int) + 1))).run Tryz.prog w = .ok (.slice (some ⟨w.heap.size, 0, none⟩) (n + 1) (n + 1)) (w.alloc (.cells (madeCells #[.int .i64 0] (n + 1)) 3)) :=
    fun w => run_make_row' (P := Tryz.prog) 36 3 (.int .i64 0) 8 Tryz.underlying36 infoInt rfl .i64 .i64 (n + 1) (by omega) (by omega) w
  go_enter Tryz.func60, Tryz.ntmps60
  go_wp2_with fail
  go_region
  · go_wp2_with fail
    obtain ⟨t0, t1, t2, t3⟩ := three_at w (.cells #[.slice (some ⟨w.heap.size + 1, 0, none⟩) n n, .slice none 0 0, .slice (some ⟨w.heap.size + 1 + 1, 0, none⟩) (n + 1) (n + 1), .int .i64 0] 129) (.cells (madeCells #[.bool false] n) 4) (.cells (madeCells #[.int .i64 0] (n + 1)) 3)
    refine bodyPost_ret (results_cell_row rfl _ _ w.heap.size _ _ _ _ rfl t0 Tryz.underlying129 rfl (by kernel_rfl)) rfl ?_
    exact ⟨w.heap.size + 1, w.heap.size + 1 + 1, rfl, t3, by omega, by omega, by omega, t1, t2⟩
  · go_wp2_with fail
    obtain ⟨t0, t1, t2, t3⟩ := three_at w (.cells #[.slice (some ⟨w.heap.size + 1 + 1, 0, none⟩) n n, .slice none 0 0, .slice (some ⟨w.heap.size + 1, 0, none⟩) (n + 1) (n + 1), .int .i64 0] 129) (.cells (madeCells #[.int .i64 0] (n + 1)) 3) (.cells (madeCells #[.bool false] n) 4)
    refine bodyPost_ret (results_cell_row rfl _ _ w.heap.size _ _ _ _ rfl t0 Tryz.underlying129 rfl (by kernel_rfl)) rfl ?_
    exact ⟨w.heap.size + 1 + 1, w.heap.size + 1, rfl, t3, by omega, by omega, by omega, t2, t1⟩
end Go.Proofs.YtpmdnbdmocdngaaGreat
