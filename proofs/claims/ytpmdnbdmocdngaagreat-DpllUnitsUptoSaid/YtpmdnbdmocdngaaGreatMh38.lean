/-
  Parts of the proof, joined: UnitA.
-/
import Derived.Test.YtpmdnbdmocdngaaGreatMh13
import Derived.Deep.RegionLaw

namespace Go.Proofs.YtpmdnbdmocdngaaGreat
open Go.ChangeShapes Go.WideShapes Go.ChangeAt Go.RowKit
set_option linter.unusedVariables false

theorem infoRow : (Tryz.prog.info? 36).map (fun i => (i.zero, i.size, i.bytes)) = some (some (.slice none 0 0), 1, 24) := by kernel_rfl
theorem row_alike {w w' : World} {base : Nat} {e : TypeId} {size n : Nat} {v : Value} {xs : List Value} (h : w.ownsRow base e size v n xs) (he : w'.heap = w.heap) : w'.ownsRow base e size v n xs := by
  refine ⟨h.1, ?_⟩
  rw [he]; exact h.2
theorem new_at_b {W W' : World} {o : Obj} {g : Nat} (hg : W.heap.size = g) (he : W'.heap = (W.alloc o).heap) : W'.heap[g]? = some o := by rw [he, ← hg]; exact new_heap W o
theorem len_pl {cs : List (List Int)} {l : List Int} (q : Nat) : (wrow cs l q).length ≤ cs.length + 1 := by
  unfold wrow
  rw [List.length_append]
  have : (wl cs (un q)).length ≤ cs.length := by unfold wl; exact Nat.le_trans (List.length_filter_le _ _) (by simp)
  split <;> simp <;> omega
/-- Parts that adding writes. -/
abbrev RW : Nat → Prop := fun r => r = 4 ∨ 8 ≤ r
abbrev RA : Nat → Prop := fun r => r = 1 ∨ r = 2 ∨ r = 3 ∨ r = 4 ∨ 8 ≤ r
section
variable {B : Nat} {τ : Nat → Nat} {W : World} {p n : Nat} {cs : List (List Int)} {lf : List Int} {F : Nat → List Nat} {t hs : List Int} {cv lv wv tv hv : Value}


/-- What is known of the row that one more clause's number is put behind. -/
def AddW (B : Nat) (τ : Nat → Nat) (W : World) (p n : Nat) (cs : List (List Int)) (lf : List Int) (F : Nat → List Nat) (t hs : List Int) (cv lv wv tv hv : Value) (W' : World) : Prop :=
  ∃ τ', Ch B τ' W' p n cs lf F t hs cv lv wv tv hv ∧ Step RW τ τ' W W'
theorem Row.lt {τ : Nat → Nat} {r : Nat} {w : World} {e : TypeId} {v : Value} {xs : List Value} (h : Row τ r w e v xs) {k : Nat} (hk : v.ownBlock = some k) : k < w.heap.size := by
  rcases h.at with ⟨h0, _⟩ | ⟨g, cap, cur, h0, hb, _⟩
  · rw [h0] at hk; cases hk
  · rw [h0] at hk; injection hk with hk; subst hk; exact hb.lt
theorem new_under {W W' : World} {o o2 : Obj} {g : Nat} (hg : W.heap.size = g) (he : W'.heap = ((W.alloc o).alloc o2).heap) : W'.heap[g]? = some o := by
  rw [he, ← hg]
  show ((W.heap.push o).push o2)[W.heap.size]? = _
  rw [Array.getElem?_push, if_neg (by simp), Array.getElem?_push, if_pos rfl]
theorem pcs_set (a b c d e x y : Value) : (#[a, b, c, d, e].setIfInBounds 0 x).setIfInBounds 1 y = #[x, y, c, d, e] := by simp
theorem Ck.midA {pcs : Array Value} {w0 X w1 : World} {cvs : List Value} {v : Value} {c : List Int} {g cap : Nat} (h : Ck B τ w0 p n cs lf F t hs pcs cv lv wv tv hv) (hcl : cvs.length = cs.length) (hcs : ∀ (i : Nat) (c : List Int), cs[i]? = some c → ∃ v, cvs[i]? = some v ∧ Lit τ w0 v c)
    (hr : Row τ 2 w0 36 cv cvs) (hl : Lit τ w0 v c) (b : Below w0.heap.size w0 X) (hg : X.grownBy w1 cv.ownBlock) (hown : w1.ownsRow 0 36 1 (.slice (some ⟨g, 0, none⟩) (cs.length + 1) cap) (cs.length + 1) (cvs ++ [v])) (hat : cv.ownBlock = some g ∨ X.heap.size ≤ g) :
    ∃ τ1, Ck B τ1 w1 p n (cs ++ [c]) lf F t hs pcs (.slice (some ⟨g, 0, none⟩) (cs.length + 1) cap) lv wv tv hv ∧ Step RA τ τ1 w0 w1 := by
  have s := Step.of_below (fun _ => False) τ b
  obtain ⟨τ1, k1, s1⟩ := (h.below b).appC (hl.step s (fun h => h)) hcl (fun i c hc => by obtain ⟨v, a, b⟩ := hcs i c hc; exact ⟨v, a, b.step s (fun h => h)⟩) (hr.step s (fun h => h)) hg hown hat
  exact ⟨τ1, k1, (s.mono (fun _ h => h.elim)).trans (s1.mono (fun r h => .inr (.inl h)))⟩
theorem Ck.midB {pcs : Array Value} {w0 X w1 : World} {x : Int} {g cap : Nat} (h : Ck B τ w0 p n cs lf F t hs pcs cv lv wv tv hv) (b : Below w0.heap.size w0 X) (hg : X.grownBy w1 lv.ownBlock) (hown : w1.ownsRow 0 3 1 (.slice (some ⟨g, 0, none⟩) (lf.length + 1) cap) (lf.length + 1) (ints lf ++ [.int .i64 x])) (hat : lv.ownBlock = some g ∨ X.heap.size ≤ g) :
    ∃ τ1, Ck B τ1 w1 p n cs (lf ++ [x]) F t hs pcs cv (.slice (some ⟨g, 0, none⟩) (lf.length + 1) cap) wv tv hv ∧ Step RA τ τ1 w0 w1 := by
  have s := Step.of_below (fun _ => False) τ b
  obtain ⟨τ1, k1, s1⟩ := (h.below b).appL hg hown hat
  exact ⟨τ1, k1, (s.mono (fun _ h => h.elim)).trans (s1.mono (fun r h => .inr (.inr (.inl h))))⟩
/-- What adding a clause leaves. -/
def AddPost (B : Nat) (τ : Nat → Nat) (W : World) (p n : Nat) (cs : List (List Int)) (lf : List Int) (t hs : List Int) (c : List Int) (wv tv hv : Value) (W' : World) : Prop :=
  (taut (row c) = true ∧ ∃ τ' cv' lv' F', Ch B τ' W' p n cs lf F' t hs cv' lv' wv tv hv ∧ (∀ q, q < 2 * n → F' q = wl cs (un q)) ∧ Step RA τ τ' W W') ∨
  (taut (row c) = false ∧ ∃ τ' cv' lv' F', Ch B τ' W' p n (cs ++ [row c]) (lf ++ [((row c).length : Int)]) F' t hs cv' lv' wv tv hv ∧ (∀ q, q < 2 * n → F' q = wl (cs ++ [row c]) (un q)) ∧ Step RA τ τ' W W')
theorem app_fact {wb q : Nat} {A2 : Option Addr} {wcap : Nat} {Fq : List Nat} {w0 : World} {cA : Option Addr} {ccap : Nat} (h : Ch B τ w0 p n cs lf F t hs (.slice cA cs.length ccap) lv (.slice (some ⟨wb, 0, none⟩) (2 * n) (2 * n)) tv hv) (hq : q < 2 * n) (hFq : F q = Fq) (hc : w0.cell? ⟨wb, q, none⟩ = some (.slice A2 Fq.length wcap)) :
    ∀ (g1 c1 : Nat) (w1 : World), (w0.alloc (.cells #[.int .i64 (cs.length : Nat)] 3)).grownBy w1 (Value.slice A2 Fq.length wcap).ownBlock → w1.ownsRow 0 3 1 (.slice (some ⟨g1, 0, none⟩) (Fq.length + 1) c1) (Fq.length + 1) (nats Fq ++ [.int .i64 (cs.length : Nat)]) → ((Value.slice A2 Fq.length wcap).ownBlock = some g1 ∨ g1 = w0.heap.size + 1) →
    (w1.cell? ⟨p, 0, none⟩ = some (.slice cA cs.length ccap) ∧ w1.cell? ⟨p, 2, none⟩ = some (.slice (some ⟨wb, 0, none⟩) (2 * n) (2 * n)) ∧ w1.cell? ⟨wb, q, none⟩ = some (.slice A2 Fq.length wcap) ∧ w1.frozen? ⟨wb, q, none⟩ = false) ∧
    AddW B τ w0 p n cs lf (fun k => if k = q then F q ++ [cs.length] else F k) t hs (.slice cA cs.length ccap) lv (.slice (some ⟨wb, 0, none⟩) (2 * n) (2 * n)) tv hv (w1.setCell ⟨wb, q, none⟩ (.slice (some ⟨g1, 0, none⟩) (Fq.length + 1) c1)) := by
  intro g1 c1 w1 hg hown hat
  subst hFq
  have b1 : Below w0.heap.size w0 (w0.alloc (.cells #[.int .i64 (cs.length : Nat)] 3)) := (Below.refl _ _).alloc (Nat.le_refl _) _
  have h1 := h.below b1
  have hc1 : (w0.alloc (.cells #[.int .i64 (cs.length : Nat)] 3)).cell? ⟨wb, q, none⟩ = some (.slice A2 (F q).length wcap) := (b1.cell (lt_of_cell hc)).trans hc
  obtain ⟨⟨k0, k2, kw, kf⟩, τ', kA, sA⟩ := h1.appW rfl hq hc1 hg hown (hat.imp id (fun e => by simp; omega))
  refine ⟨⟨k0.trans (h1.blk.cell 0), k2.trans (h1.blk.cell 2), kw.trans hc1, kf⟩, τ', kA, (Step.of_below RW τ b1).trans (sA.mono fun r hr => hr.imp id (fun e => by omega))⟩
set_option maxHeartbeats 1600000 in
set_option maxRecDepth 20000 in
set_option linter.unusedSimpArgs false in
theorem add_any {A : Option Addr} {c : List Int} {cap : Nat} (h : Ch B τ W p n cs lf F t hs cv lv wv tv hv) (hF : ∀ q, q < 2 * n → F q = wl cs (un q)) (hsq : SeqAt (Value.int .i64) W A c) (ok : ∀ l ∈ c, LOk n l) (hn : n ≤ 65536) (hcs : cs.length < 100000) (hlf : lf.length = cs.length) (hcl : c.length ≤ 100000) :
    Calls Tryz.prog 85 #[ptr p, .slice A c.length cap] W (fun e W' => e = .returned (.tuple #[]) ∧ AddPost B τ W p n cs lf t hs c wv tv hv W') := by
  have cn := Lib.hid (normal_any A c cap W hsq (fun l hl => by have := ok l hl; unfold LOk at this; unfold Wf; omega) hcl)
  have H := Lib.hid h
  have HF := Lib.hid hF
  have ROK := Lib.hid (fun x (hx : x ∈ row c) => ok x (row_mem hx))
  have RND := Lib.hid (rise_nodup (row_spec c).1)
  have hrl : (row c).length ≤ 100000 := Nat.le_trans (row_len c) hcl
  have hl9 : lf.length ≤ 100000 := by omega
  clear hlf
  obtain ⟨cA, ccap, hcv⟩ := h.clausesForm
  obtain ⟨wb, wvs, hwv, _⟩ := h.wrow
  obtain ⟨i0, hi0, hz0, hz1, hz2⟩ := info_parts infoInt
  have HI := Lib.hid (show _ ∧ _ ∧ _ ∧ _ from ⟨hi0, hz0, hz1, hz2⟩)
  clear hi0 hz0 hz1 hz2
  clear h hF hsq ok
  subst hcv
  subst hwv
  cases ht : taut (row c) with
  | true =>
    have HE : Hid ((nrm c).1 = [] ∧ (nrm c).2 = true) := by rw [nrm_yes ht]; exact ⟨rfl, rfl⟩
    have HP : Hid (∀ w1, Below W.heap.size W w1 → AddPost B τ W p n cs lf t hs c (.slice (some ⟨wb, 0, none⟩) (2 * n) (2 * n)) tv hv w1) := fun w1 b => .inl ⟨ht, τ, _, lv, F, H.out.below b, HF.out, Step.of_below _ _ b⟩
    go_enter Tryz.func85, Tryz.ntmps85
    go_wp2_with fail
    refine cn.out.mono ?_
    rintro e w1 ⟨A1, cap1, rfl, hs1, hb1, hf1⟩
    rw [HE.out.1, HE.out.2]
    have HB := Lib.hid (HP.out w1 hb1)
    clear hs1 hb1 hf1
    go_wp2_with fail
    (try simp only [Exit.inBlock, Exit.then]); refine bodyPost_ret (results_none rfl _ _ _) rfl ?_
    exact ⟨rfl, HB.out⟩
  | false =>
    have HE : Hid ((nrm c).1 = row c ∧ (nrm c).2 = false) := by rw [nrm_no ht]; exact ⟨rfl, rfl⟩
    have HT := Lib.hid ht
    clear ht
    go_enter Tryz.func85, Tryz.ntmps85
    go_wp2_with fail
    refine cn.out.mono ?_
    rintro e w1 ⟨A1, cap1, rfl, hs1, hb1, hf1⟩
    rw [HE.out.1] at hs1
    rw [HE.out.1, HE.out.2]
    obtain ⟨τ1, hτ1⟩ : ∃ τ1 : Nat → Nat, τ1 = fun b => if W.heap.size ≤ b then 7 else τ b := ⟨_, rfl⟩
    have s1 : Step (fun _ => False) τ τ1 W w1 := ⟨(Step.of_below (fun _ => False) τ hb1).kept, fun b hb => by rw [hτ1]; exact if_neg (by omega)⟩
    have H1 := Lib.hid (Ck.step0 H.out s1 (fun _ _ h => h))
    have S1 := Lib.hid (s1.mono (R' := RA) (fun _ h => h.elim))
    have L1 : Hid (Lit τ1 w1 (.slice A1 (row c).length cap1) (row c)) := ⟨A1, cap1, rfl, fun i z hz => by
      obtain ⟨a, ha, hc⟩ := hs1.get i z hz
      exact ⟨a, ha, hc, by rw [hτ1]; exact if_pos (hf1 a ha)⟩⟩
    have HS := Lib.hid hs1
    have HWl : Hid (∀ q, q < 2 * n → F q = wrow cs [] q) := fun q hq => by rw [wrow_nil]; exact HF.out q hq
    clear s1 hs1 hb1 hf1 hτ1 cn HF H
    obtain ⟨l, hl⟩ : ∃ l, l = row c := ⟨_, rfl⟩
    have HL := Lib.hid hl
    rw [← hl] at hrl L1 HS ROK RND ⊢
    clear hl
    go_wp2_with fail
    go_loopw [16] (fun v wr => ∃ (j : Nat) (τ2 : Nat → Nat) (F2 : Nat → List Nat), j ≤ l.length ∧ v = .int .i64 j ∧ Hid (Ch B τ2 wr p n cs lf F2 t hs (.slice cA cs.length ccap) lv (.slice (some ⟨wb, 0, none⟩) (2 * n) (2 * n)) tv hv) ∧ Hid (∀ q, q < 2 * n → F2 q = wrow cs (l.take j) q) ∧ Hid (Step RW τ1 τ2 w1 wr)) (fun v _ => l.length - (intOf v).toNat)
    case atStart => exact ⟨0, τ1, F, by omega, rfl, H1.out, by rw [List.take_zero]; exact HWl.out, Step.refl _ _ _⟩
    case round =>
      obtain ⟨j, τ2, F2, hj, rfl, H2, F2e, S2⟩ := hrel
      by_cases hlt : j < l.length
      · obtain ⟨x, hz⟩ : ∃ x, l[j]? = some x := ⟨_, List.getElem?_eq_getElem hlt⟩
        have okx := ROK.out x (List.mem_of_getElem? hz)
        have HX : Hid (l.take (j + 1) = l.take j ++ [x] ∧ x ∉ l.take j) := by
          have hz' := (List.getElem?_eq_some_iff.1 hz).2
          refine ⟨by rw [List.take_succ_eq_append_getElem hlt, hz'], fun hm => ?_⟩
          obtain ⟨a, ha, e⟩ := List.mem_iff_getElem.1 hm
          rw [List.length_take] at ha
          rw [List.getElem_take, ← hz'] at e
          have := (List.getElem_inj RND.out).1 e
          omega
        have LS := L1.out.step S2.out (by decide)
        obtain ⟨a, ha, hcx⟩ : ∃ a, A1 = some a ∧ wr.cell? (a.add j) = some (.int .i64 x) := by
          obtain ⟨A3, cap3, e3, g3⟩ := LS
          injection e3 with e3 _ _
          obtain ⟨a, ha, hc, _⟩ := g3 j x hz
          exact ⟨a, by rw [e3]; exact ha, hc⟩
        clear LS
        obtain ⟨q, hq⟩ : ∃ q, q = pl x := ⟨_, rfl⟩
        have hq2 : q < 2 * n := by rw [hq]; exact (un_pl okx).2
        obtain ⟨wb', A2, wcap, hwb, hcw, hrow⟩ := H2.out.withAt hq2
        injection hwb with hwb _ _
        injection hwb with hwb; injection hwb with hwb; subst hwb
        obtain ⟨Fq, hFq⟩ : ∃ Fq, Fq = F2 q := ⟨_, rfl⟩
        have hwl : Fq.length ≤ 100000 := by rw [hFq, F2e.out q hq2]; have := len_pl (cs := cs) (l := l.take j) q; omega
        rw [← hFq] at hcw hrow
        have PL := Lib.hid (fun W => place_any x W okx hn)
        rw [← hq] at PL
        have HM : Hid (Fq.length + 1 ≤ maxLen) := by show Fq.length + 1 ≤ maxLen; unfold maxLen; omega
        have HB8 : Hid ((Fq.length + 1) * 8 ≤ 140737488355328) := by show (Fq.length + 1) * 8 ≤ 140737488355328; omega
        have c0 : wr.cell? ⟨p, 0, none⟩ = some (.slice cA cs.length ccap) := H2.out.blk.cell 0
        have c2 : wr.cell? ⟨p, 2, none⟩ = some (.slice (some ⟨wb, 0, none⟩) (2 * n) (2 * n)) := H2.out.blk.cell 2
        have NX : Hid (∀ w3, AddW B τ2 wr p n cs lf (fun k => if k = q then F2 q ++ [cs.length] else F2 k) t hs (.slice cA cs.length ccap) lv (.slice (some ⟨wb, 0, none⟩) (2 * n) (2 * n)) tv hv w3 →
            ∃ (τ3 : Nat → Nat) (F3 : Nat → List Nat), Hid (Ch B τ3 w3 p n cs lf F3 t hs (.slice cA cs.length ccap) lv (.slice (some ⟨wb, 0, none⟩) (2 * n) (2 * n)) tv hv) ∧ Hid (∀ q, q < 2 * n → F3 q = wrow cs (l.take (j + 1)) q) ∧ Hid (Step RW τ1 τ3 w1 w3)) := by
          rintro w3 ⟨τ3, k3, s3⟩
          refine ⟨τ3, _, k3, fun q' hq' => ?_, S2.out.trans s3⟩
          rw [HX.out.1, wrow_step okx HX.out.2, ← hq]
          by_cases e : q' = q
          · subst e; simp only [if_true]
            rw [F2e.out q' hq', hq, wrow_at okx HX.out.2]
          · rw [if_neg e, if_neg e]; exact F2e.out q' hq'
        have DR : Hid (Below wr.heap.size wr wr.drew) := Below.draws (Below.refl _ _) 1
        have H3 := Lib.hid (H2.out.below DR.out)
        have APP := Lib.hid (app_fact (A2 := A2) (wcap := wcap) (Fq := Fq) H3.out hq2 hFq.symm hcw)
        have SD := Lib.hid (Step.of_below RW τ2 DR.out)
        have HO : Hid (wr.drew.ownsRow 0 3 1 (.slice A2 Fq.length wcap) Fq.length (nats Fq)) := by have := (hrow.step (R := fun _ => False) (Step.of_below _ τ2 DR.out) (fun h => h)).1; rw [List.length_map] at this; exact this
        have c0d : wr.drew.cell? ⟨p, 0, none⟩ = some (.slice cA cs.length ccap) := c0
        have c2d : wr.drew.cell? ⟨p, 2, none⟩ = some (.slice (some ⟨wb, 0, none⟩) (2 * n) (2 * n)) := c2
        have cwd : wr.drew.cell? ⟨wb, q, none⟩ = some (.slice A2 Fq.length wcap) := hcw
        have qi : (q : Int) < 2 * (n : Int) := by omega
        have wi : wr.heap.size = wr.drew.heap.size := rfl
        have KB := Lib.hid (show (wr.drew.alloc (.cells #[.int .i64 (cs.length : Nat)] 3)).cell? ⟨p, 0, none⟩ = some (.slice cA cs.length ccap) ∧ (wr.drew.alloc (.cells #[.int .i64 (cs.length : Nat)] 3)).cell? ⟨p, 2, none⟩ = some (.slice (some ⟨wb, 0, none⟩) (2 * n) (2 * n)) ∧ (wr.drew.alloc (.cells #[.int .i64 (cs.length : Nat)] 3)).cell? ⟨wb, q, none⟩ = some (.slice A2 Fq.length wcap) from by
          have bb : Below wr.drew.heap.size wr.drew (wr.drew.alloc (.cells #[.int .i64 (cs.length : Nat)] 3)) := (Below.refl _ _).alloc (Nat.le_refl _) _
          exact ⟨(bb.cell (lt_of_cell c0d)).trans c0d, (bb.cell (lt_of_cell c2d)).trans c2d, (bb.cell (lt_of_cell cwd)).trans cwd⟩)
        have APD : Hid (∀ w3, AddW B τ2 wr.drew p n cs lf (fun k => if k = q then F2 q ++ [cs.length] else F2 k) t hs (.slice cA cs.length ccap) lv (.slice (some ⟨wb, 0, none⟩) (2 * n) (2 * n)) tv hv w3 → AddW B τ2 wr p n cs lf (fun k => if k = q then F2 q ++ [cs.length] else F2 k) t hs (.slice cA cs.length ccap) lv (.slice (some ⟨wb, 0, none⟩) (2 * n) (2 * n)) tv hv w3) := fun w3 ⟨τ3, k3, s3⟩ => ⟨τ3, k3, SD.out.trans s3⟩
        subst ha
        clear hz okx hq hcw hrow hFq H2 F2e S2 DR H3 SD HX
        go_wp2_with fail
        refine region_last (S := fun w' => w'.cell? ⟨p, 0, none⟩ = some (.slice cA cs.length ccap) ∧ w'.cell? ⟨p, 2, none⟩ = some (.slice (some ⟨wb, 0, none⟩) (2 * n) (2 * n)) ∧ w'.cell? ⟨wb, q, none⟩ = some (.slice A2 Fq.length wcap)) (by kernel_rfl) (by rfl) (by rfl) (by kernel_rfl) ⟨c0d, c2d, cwd⟩ (fun hHeld => ?_)
        generalize wr.drew = w0 at *
        simp only [List.pop_toArray, List.dropLast_cons_cons, List.dropLast_singleton]
        refine wpAnyH_take (i := 0) (v := ?v1) rfl (by kernel_rfl) (by kernel_rfl) (by kernel_rfl) (fun _ _ _ h => h) (Or.inl ⟨by rfl, ?hy1⟩) (by assumption) ?rest1
        case hy1 => (intro w hSw; (try dsimp only at hSw); go_simp; try with_reducible rfl)
        (try simp only [Act.put, List.setIfInBounds_toArray, List.set_cons_zero, List.set_cons_succ])
        refine wpAnyH_take (i := 1) (v := ?v2) rfl (by kernel_rfl) (by kernel_rfl) (by kernel_rfl) (fun _ _ _ h => h) (Or.inl ⟨by rfl, ?hy2⟩) (by assumption) ?rest2
        case hy2 => (intro w hSw; (try dsimp only at hSw); go_simp; try with_reducible rfl)
        (try simp only [Act.put, List.setIfInBounds_toArray, List.set_cons_zero, List.set_cons_succ])
        refine wpAnyH_take (i := 2) (v := ?v3) rfl (by kernel_rfl) (by kernel_rfl) (by kernel_rfl) (fun _ _ _ h => h) (Or.inl ⟨by rfl, ?hy3⟩) (by assumption) ?rest3
        case hy3 => (intro w hSw; (try dsimp only at hSw); go_simp; try with_reducible rfl)
        (try simp only [Act.put, List.setIfInBounds_toArray, List.set_cons_zero, List.set_cons_succ])
        refine wpAnyH_take (i := 3) (v := ?v4) rfl (by kernel_rfl) (by kernel_rfl) (by kernel_rfl) (fun _ _ _ h => h) (Or.inl ⟨by rfl, ?hy4⟩) (by assumption) ?rest4
        case hy4 => (intro w hSw; (try dsimp only at hSw); go_simp; try with_reducible rfl)
        (try simp only [Act.put, List.setIfInBounds_toArray, List.set_cons_zero, List.set_cons_succ])
        refine wpAnyH_take (i := 4) (v := ?v5) rfl (by kernel_rfl) (by kernel_rfl) (by kernel_rfl) (fun _ _ _ h => h) (Or.inl ⟨by rfl, ?hy5⟩) (by assumption) ?rest5
        case hy5 => (intro w hSw; (try dsimp only at hSw); go_simp; try with_reducible rfl)
        (try simp only [Act.put, List.setIfInBounds_toArray, List.set_cons_zero, List.set_cons_succ])
        refine wpAnyH_take (i := 6) (v := ?v6) rfl (by kernel_rfl) (by kernel_rfl) (by kernel_rfl) (fun _ _ _ h => h) (Or.inl ⟨by rfl, ?hy6⟩) (by assumption) ?rest6
        case hy6 => (intro w hSw; (try dsimp only at hSw); go_simp; try with_reducible rfl)
        (try simp only [Act.put, List.setIfInBounds_toArray, List.set_cons_zero, List.set_cons_succ])
        refine wpAnyH_take (i := 7) (v := ?v7) rfl (by kernel_rfl) (by kernel_rfl) (by kernel_rfl) (fun _ _ _ h => h) (Or.inl ⟨by rfl, ?hy7⟩) (by assumption) ?rest7
        case hy7 => (intro w hSw; (try dsimp only at hSw); go_simp; try with_reducible rfl)
        (try simp only [Act.put, List.setIfInBounds_toArray, List.set_cons_zero, List.set_cons_succ])
        refine wpAnyH_take (i := 8) (v := ?v8) rfl (by kernel_rfl) (by kernel_rfl) (by kernel_rfl) (fun _ _ _ h => h) (Or.inl ⟨by rfl, ?hy8⟩) (by assumption) ?rest8
        case hy8 => (intro w hSw; (try dsimp only at hSw); go_simp; try with_reducible rfl)
        (try simp only [Act.put, List.setIfInBounds_toArray, List.set_cons_zero, List.set_cons_succ])
        refine wpAnyH_take (i := 9) (v := ?v9) rfl (by kernel_rfl) (by kernel_rfl) (by kernel_rfl) (fun _ _ _ h => h) (Or.inl ⟨by rfl, ?hy9⟩) (by assumption) ?rest9
        case hy9 => (intro w hSw; (try dsimp only at hSw); go_simp; try with_reducible rfl)
        (try simp only [Act.put, List.setIfInBounds_toArray, List.set_cons_zero, List.set_cons_succ])
        refine wpAnyH_take (i := 10) (v := ?v10) rfl (by kernel_rfl) (by kernel_rfl) (by kernel_rfl) (fun _ _ _ h => h) (Or.inl ⟨by rfl, ?hy10⟩) (by assumption) ?rest10
        case hy10 => (intro w hSw; (try dsimp only at hSw); go_simp; try with_reducible rfl)
        (try simp only [Act.put, List.setIfInBounds_toArray, List.set_cons_zero, List.set_cons_succ])
        refine wpAnyH_take (i := 14) (v := ?v11) rfl (by kernel_rfl) (by kernel_rfl) (by kernel_rfl) (fun _ _ _ h => h) (Or.inl ⟨by rfl, ?hy11⟩) (by assumption) ?rest11
        case hy11 => (intro w hSw; (try dsimp only at hSw); go_simp; try with_reducible rfl)
        (try simp only [Act.put, List.setIfInBounds_toArray, List.set_cons_zero, List.set_cons_succ])
        refine wpAnyH_take (i := 15) (v := ?v12) rfl (by kernel_rfl) (by kernel_rfl) (by kernel_rfl) (fun _ _ _ h => h) (Or.inl ⟨by rfl, ?hy12⟩) (by assumption) ?rest12
        case hy12 => (intro w hSw; (try dsimp only at hSw); go_simp; try with_reducible rfl)
        (try simp only [Act.put, List.setIfInBounds_toArray, List.set_cons_zero, List.set_cons_succ])
        refine wpAnyH_take (i := 16) (v := ?v13) rfl (by kernel_rfl) (by kernel_rfl) (by kernel_rfl) (fun _ _ _ h => h) (Or.inl ⟨by rfl, ?hy13⟩) (by assumption) ?rest13
        case hy13 => (intro w hSw; (try dsimp only at hSw); go_simp; try with_reducible rfl)
        (try simp only [Act.put, List.setIfInBounds_toArray, List.set_cons_zero, List.set_cons_succ])
        refine wpAnyH_take (i := 17) (v := ?v14) rfl (by kernel_rfl) (by kernel_rfl) (by kernel_rfl) (fun _ _ _ h => h) (Or.inl ⟨by rfl, ?hy14⟩) (by assumption) ?rest14
        case hy14 => (intro w hSw; (try dsimp only at hSw); go_simp; try with_reducible rfl)
        (try simp only [Act.put, List.setIfInBounds_toArray, List.set_cons_zero, List.set_cons_succ])
        refine wpAnyH_take (i := 18) (v := ?v15) rfl (by kernel_rfl) (by kernel_rfl) (by kernel_rfl) (fun _ _ _ h => h) (Or.inl ⟨by rfl, ?hy15⟩) (by assumption) ?rest15
        case hy15 => (intro w hSw; (try dsimp only at hSw); go_simp; try with_reducible rfl)
        (try simp only [Act.put, List.setIfInBounds_toArray, List.set_cons_zero, List.set_cons_succ])
        refine wpAnyH_ready (rs := [5, 19]) (by kernel_rfl) (by simp) ?_
        refine AllReadyH.cons rfl (fun K hK => ?_) ?_
        · skip
          go_simp
          go_at_call 87
          refine (PL.out _).mono ?_
          rintro e w' ⟨rfl, rfl⟩
          refine hK.out _ _ ?_ (fun hHeld => ?_)
          · exact hHeld
          clear hK K
          (try simp only [Act.put, List.setIfInBounds_toArray, List.set_cons_zero, List.set_cons_succ])
          refine wpAnyH_ready (rs := [11, 19]) (by kernel_rfl) (by simp) ?_
          refine AllReadyH.cons rfl (fun K hK => ?_) ?_
          · skip
            go_simp
            go_at_call 87
            refine (PL.out _).mono ?_
            rintro e w' ⟨rfl, rfl⟩
            refine hK.out _ _ ?_ (fun hHeld => ?_)
            · exact hHeld
            clear hK K
            (try simp only [Act.put, List.setIfInBounds_toArray, List.set_cons_zero, List.set_cons_succ])
            refine wpAnyH_take (i := 12) (v := ?v16) rfl (by kernel_rfl) (by kernel_rfl) (by kernel_rfl) (fun _ _ _ h => h) (Or.inl ⟨by rfl, ?hy16⟩) (by assumption) ?rest16
            case hy16 => (intro w hSw; (try dsimp only at hSw); go_simp; try with_reducible rfl)
            (try simp only [Act.put, List.setIfInBounds_toArray, List.set_cons_zero, List.set_cons_succ])
            refine wpAnyH_take (i := 13) (v := ?v17) rfl (by kernel_rfl) (by kernel_rfl) (by kernel_rfl) (fun _ _ _ h => h) (Or.inl ⟨by rfl, ?hy17⟩) (by assumption) ?rest17
            case hy17 => (intro w hSw; (try dsimp only at hSw); go_simp; try with_reducible rfl)
            (try simp only [Act.put, List.setIfInBounds_toArray, List.set_cons_zero, List.set_cons_succ])
            refine wpAnyH_ready (rs := [19]) (by kernel_rfl) (by simp) ?_
            refine AllReadyH.cons rfl (fun K hK => ?_) ?_
            · skip
              go_simp
              refine hK.out _ _ ?_ (fun hHeld => ?_)
              · exact KB.out
              clear hK K
              (try simp only [Act.put, List.setIfInBounds_toArray, List.set_cons_zero, List.set_cons_succ])
              refine wpAnyH_ready (rs := [20]) (by kernel_rfl) (by simp) ?_
              refine AllReadyH.cons rfl (fun K hK => ?_) ?_
              · skip
                refine step_append_lies _ (by rfl) _ _ _ (by rfl) 0 3 i0 _ 1 8 Tryz.underlying36 HI.out.1 HI.out.2.1 HI.out.2.2.1 HI.out.2.2.2 rfl (by omega) (.slice A2 Fq.length wcap) Fq.length (nats Fq) (by rfl) (by exact row_alike (HO.out.alloc _) rfl) ⟨w0.heap.size, 0, none⟩ 1 1 [.int .i64 (cs.length : Nat)] (by rfl) (by rfl) (by exact World.news_of_block (cs := #[.int .i64 (cs.length : Nat)]) (t := 3) (fr := (0, 0)) (new_at_b (W := w0) rfl rfl)) (by simp [Value.oneCell']) (by omega) HM.out HB8.out (Nat.zero_le _) (w0.heap.size + 1) (by simp) ?_
                intro g1 c1 w1 hown1 hg1 hat1 hlt1
                obtain ⟨⟨k0, k2, kw, kf⟩, hfin⟩ := APP.out g1 c1 w1 hg1 hown1 hat1
                have HFIN := Lib.hid hfin
                clear hown1 hg1 hat1 hlt1 hfin
                refine hK.out _ _ ?_ (fun hHeld => ?_)
                · exact ⟨k0, k2, kw⟩
                clear hK K
                (try simp only [Act.put, List.setIfInBounds_toArray, List.set_cons_zero, List.set_cons_succ])
                refine wpAnyH_take (i := 21) (v := ?v18) rfl (by kernel_rfl) (by kernel_rfl) (by kernel_rfl) (fun _ _ _ h => h) (Or.inl ⟨by rfl, ?hy18⟩) (by assumption) ?rest18
                case hy18 => (intro w hSw; (try dsimp only at hSw); go_simp; try with_reducible rfl)
                (try simp only [Act.put, List.setIfInBounds_toArray, List.set_cons_zero, List.set_cons_succ])
                refine wpAnyH_done (by kernel_rfl) ?_ _
                show Oper.wp _ _ _ _ _ _
                simp only [List.getElem_toArray, List.getElem_cons_succ, List.getElem_cons_zero]
                go_simp
                go_wp2_with fail
                obtain ⟨τ3, F3, k3, f3, s3⟩ := NX.out _ (APD.out _ HFIN.out)
                go_roundw
                case rel => exact ⟨j + 1, τ3, F3, by omega, by go_num, k3.out, f3.out, s3.out⟩
                case measure => simp [intOf]; omega
              exact AllReadyH.nil
            exact AllReadyH.nil
          refine AllReadyH.cons rfl (fun K hK => ?_) ?_
          · skip
            go_simp
            refine hK.out _ _ ?_ (fun hHeld => ?_)
            · exact KB.out
            clear hK K
            (try simp only [Act.put, List.setIfInBounds_toArray, List.set_cons_zero, List.set_cons_succ])
            refine wpAnyH_ready (rs := [11]) (by kernel_rfl) (by simp) ?_
            refine AllReadyH.cons rfl (fun K hK => ?_) ?_
            · skip
              go_simp
              go_at_call 87
              refine (PL.out _).mono ?_
              rintro e w' ⟨rfl, rfl⟩
              refine hK.out _ _ ?_ (fun hHeld => ?_)
              · exact hHeld
              clear hK K
              (try simp only [Act.put, List.setIfInBounds_toArray, List.set_cons_zero, List.set_cons_succ])
              refine wpAnyH_take (i := 12) (v := ?v19) rfl (by kernel_rfl) (by kernel_rfl) (by kernel_rfl) (fun _ _ _ h => h) (Or.inl ⟨by rfl, ?hy19⟩) (by assumption) ?rest19
              case hy19 => (intro w hSw; (try dsimp only at hSw); go_simp; try with_reducible rfl)
              (try simp only [Act.put, List.setIfInBounds_toArray, List.set_cons_zero, List.set_cons_succ])
              refine wpAnyH_take (i := 13) (v := ?v20) rfl (by kernel_rfl) (by kernel_rfl) (by kernel_rfl) (fun _ _ _ h => h) (Or.inl ⟨by rfl, ?hy20⟩) (by assumption) ?rest20
              case hy20 => (intro w hSw; (try dsimp only at hSw); go_simp; try with_reducible rfl)
              (try simp only [Act.put, List.setIfInBounds_toArray, List.set_cons_zero, List.set_cons_succ])
              refine wpAnyH_ready (rs := [20]) (by kernel_rfl) (by simp) ?_
              refine AllReadyH.cons rfl (fun K hK => ?_) ?_
              · skip
                refine step_append_lies _ (by rfl) _ _ _ (by rfl) 0 3 i0 _ 1 8 Tryz.underlying36 HI.out.1 HI.out.2.1 HI.out.2.2.1 HI.out.2.2.2 rfl (by omega) (.slice A2 Fq.length wcap) Fq.length (nats Fq) (by rfl) (by exact row_alike (HO.out.alloc _) rfl) ⟨w0.heap.size, 0, none⟩ 1 1 [.int .i64 (cs.length : Nat)] (by rfl) (by rfl) (by exact World.news_of_block (cs := #[.int .i64 (cs.length : Nat)]) (t := 3) (fr := (0, 0)) (new_at_b (W := w0) rfl rfl)) (by simp [Value.oneCell']) (by omega) HM.out HB8.out (Nat.zero_le _) (w0.heap.size + 1) (by simp) ?_
                intro g1 c1 w1 hown1 hg1 hat1 hlt1
                obtain ⟨⟨k0, k2, kw, kf⟩, hfin⟩ := APP.out g1 c1 w1 hg1 hown1 hat1
                have HFIN := Lib.hid hfin
                clear hown1 hg1 hat1 hlt1 hfin
                refine hK.out _ _ ?_ (fun hHeld => ?_)
                · exact ⟨k0, k2, kw⟩
                clear hK K
                (try simp only [Act.put, List.setIfInBounds_toArray, List.set_cons_zero, List.set_cons_succ])
                refine wpAnyH_take (i := 21) (v := ?v21) rfl (by kernel_rfl) (by kernel_rfl) (by kernel_rfl) (fun _ _ _ h => h) (Or.inl ⟨by rfl, ?hy21⟩) (by assumption) ?rest21
                case hy21 => (intro w hSw; (try dsimp only at hSw); go_simp; try with_reducible rfl)
                (try simp only [Act.put, List.setIfInBounds_toArray, List.set_cons_zero, List.set_cons_succ])
                refine wpAnyH_done (by kernel_rfl) ?_ _
                show Oper.wp _ _ _ _ _ _
                simp only [List.getElem_toArray, List.getElem_cons_succ, List.getElem_cons_zero]
                go_simp
                go_wp2_with fail
                obtain ⟨τ3, F3, k3, f3, s3⟩ := NX.out _ (APD.out _ HFIN.out)
                go_roundw
                case rel => exact ⟨j + 1, τ3, F3, by omega, by go_num, k3.out, f3.out, s3.out⟩
                case measure => simp [intOf]; omega
              exact AllReadyH.nil
            exact AllReadyH.nil
          exact AllReadyH.nil
        refine AllReadyH.cons rfl (fun K hK => ?_) ?_
        · skip
          go_simp
          refine hK.out _ _ ?_ (fun hHeld => ?_)
          · exact KB.out
          clear hK K
          (try simp only [Act.put, List.setIfInBounds_toArray, List.set_cons_zero, List.set_cons_succ])
          refine wpAnyH_ready (rs := [5]) (by kernel_rfl) (by simp) ?_
          refine AllReadyH.cons rfl (fun K hK => ?_) ?_
          · skip
            go_simp
            go_at_call 87
            refine (PL.out _).mono ?_
            rintro e w' ⟨rfl, rfl⟩
            refine hK.out _ _ ?_ (fun hHeld => ?_)
            · exact hHeld
            clear hK K
            (try simp only [Act.put, List.setIfInBounds_toArray, List.set_cons_zero, List.set_cons_succ])
            refine wpAnyH_ready (rs := [11]) (by kernel_rfl) (by simp) ?_
            refine AllReadyH.cons rfl (fun K hK => ?_) ?_
            · skip
              go_simp
              go_at_call 87
              refine (PL.out _).mono ?_
              rintro e w' ⟨rfl, rfl⟩
              refine hK.out _ _ ?_ (fun hHeld => ?_)
              · exact hHeld
              clear hK K
              (try simp only [Act.put, List.setIfInBounds_toArray, List.set_cons_zero, List.set_cons_succ])
              refine wpAnyH_take (i := 12) (v := ?v22) rfl (by kernel_rfl) (by kernel_rfl) (by kernel_rfl) (fun _ _ _ h => h) (Or.inl ⟨by rfl, ?hy22⟩) (by assumption) ?rest22
              case hy22 => (intro w hSw; (try dsimp only at hSw); go_simp; try with_reducible rfl)
              (try simp only [Act.put, List.setIfInBounds_toArray, List.set_cons_zero, List.set_cons_succ])
              refine wpAnyH_take (i := 13) (v := ?v23) rfl (by kernel_rfl) (by kernel_rfl) (by kernel_rfl) (fun _ _ _ h => h) (Or.inl ⟨by rfl, ?hy23⟩) (by assumption) ?rest23
              case hy23 => (intro w hSw; (try dsimp only at hSw); go_simp; try with_reducible rfl)
              (try simp only [Act.put, List.setIfInBounds_toArray, List.set_cons_zero, List.set_cons_succ])
              refine wpAnyH_ready (rs := [20]) (by kernel_rfl) (by simp) ?_
              refine AllReadyH.cons rfl (fun K hK => ?_) ?_
              · skip
                refine step_append_lies _ (by rfl) _ _ _ (by rfl) 0 3 i0 _ 1 8 Tryz.underlying36 HI.out.1 HI.out.2.1 HI.out.2.2.1 HI.out.2.2.2 rfl (by omega) (.slice A2 Fq.length wcap) Fq.length (nats Fq) (by rfl) (by exact row_alike (HO.out.alloc _) rfl) ⟨w0.heap.size, 0, none⟩ 1 1 [.int .i64 (cs.length : Nat)] (by rfl) (by rfl) (by exact World.news_of_block (cs := #[.int .i64 (cs.length : Nat)]) (t := 3) (fr := (0, 0)) (new_at_b (W := w0) rfl rfl)) (by simp [Value.oneCell']) (by omega) HM.out HB8.out (Nat.zero_le _) (w0.heap.size + 1) (by simp) ?_
                intro g1 c1 w1 hown1 hg1 hat1 hlt1
                obtain ⟨⟨k0, k2, kw, kf⟩, hfin⟩ := APP.out g1 c1 w1 hg1 hown1 hat1
                have HFIN := Lib.hid hfin
                clear hown1 hg1 hat1 hlt1 hfin
                refine hK.out _ _ ?_ (fun hHeld => ?_)
                · exact ⟨k0, k2, kw⟩
                clear hK K
                (try simp only [Act.put, List.setIfInBounds_toArray, List.set_cons_zero, List.set_cons_succ])
                refine wpAnyH_take (i := 21) (v := ?v24) rfl (by kernel_rfl) (by kernel_rfl) (by kernel_rfl) (fun _ _ _ h => h) (Or.inl ⟨by rfl, ?hy24⟩) (by assumption) ?rest24
                case hy24 => (intro w hSw; (try dsimp only at hSw); go_simp; try with_reducible rfl)
                (try simp only [Act.put, List.setIfInBounds_toArray, List.set_cons_zero, List.set_cons_succ])
                refine wpAnyH_done (by kernel_rfl) ?_ _
                show Oper.wp _ _ _ _ _ _
                simp only [List.getElem_toArray, List.getElem_cons_succ, List.getElem_cons_zero]
                go_simp
                go_wp2_with fail
                obtain ⟨τ3, F3, k3, f3, s3⟩ := NX.out _ (APD.out _ HFIN.out)
                go_roundw
                case rel => exact ⟨j + 1, τ3, F3, by omega, by go_num, k3.out, f3.out, s3.out⟩
                case measure => simp [intOf]; omega
              exact AllReadyH.nil
            exact AllReadyH.nil
          exact AllReadyH.nil
        exact AllReadyH.nil
      · obtain rfl : j = l.length := by omega
        have HF2 : Hid (∀ q, q < 2 * n → F2 q = wl (cs ++ [l]) (un q)) := fun q hq => by rw [F2e.out q hq, List.take_length, wrow_all]
        obtain ⟨cvs, hcr, hcl2, hcs2⟩ := H2.out.crow
        obtain ⟨lA, lcap, hlv⟩ : ∃ A cap, lv = .slice A lf.length cap := by have := H2.out.lrow.form; rwa [List.length_map] at this
        subst hlv
        obtain ⟨i1, hi1, hy0, hy1, hy2⟩ := info_parts infoRow
        have HJ := Lib.hid (And.intro hi1 (And.intro hy0 (And.intro hy1 hy2)))
        clear hi1 hy0 hy1 hy2
        have DR : Below wr.heap.size wr wr.drew := Below.draws (Below.refl _ _) 1
        have s0 := Step.of_below (fun _ => False) τ2 DR
        have H3 := Lib.hid (H2.out.below DR)
        have LS3 := Lib.hid ((L1.out.step S2.out (by decide)).step s0 (fun h => h))
        have HCR := Lib.hid (hcr.step s0 (fun h => h))
        have HCL := Lib.hid hcl2
        have HCS : Hid (∀ (i : Nat) (c : List Int), cs[i]? = some c → ∃ v, cvs[i]? = some v ∧ Lit τ2 wr.drew v c) := fun i c hc => by obtain ⟨v, a, b⟩ := hcs2 i c hc; exact ⟨v, a, b.step s0 (fun h => h)⟩
        have S3 := Lib.hid ((S1.out.trans (S2.out.mono (R' := RA) (fun r h => h.elim (fun e => .inr (.inr (.inr (.inl e)))) (fun e => .inr (.inr (.inr (.inr e))))))).trans (Step.of_below RA τ2 DR))
        have HCV : Hid (wr.drew.ownsRow 0 36 1 (.slice cA cs.length ccap) cs.length cvs) := by have := HCR.out.1; rw [hcl2] at this; exact this
        have c0d : wr.drew.cell? ⟨p, 0, none⟩ = some (.slice cA cs.length ccap) := H3.out.blk.cell 0
        have c1d : wr.drew.cell? ⟨p, 1, none⟩ = some (.slice lA lf.length lcap) := H3.out.blk.cell 1
        have FIN : Hid (∀ (τ' : Nat → Nat) (w' : World) (cv' lv' : Value), Ck B τ' w' p n (cs ++ [l]) (lf ++ [(l.length : Int)]) F2 t hs #[cv', lv', .slice (some ⟨wb, 0, none⟩) (2 * n) (2 * n), tv, hv] cv' lv' (.slice (some ⟨wb, 0, none⟩) (2 * n) (2 * n)) tv hv → Step RA τ2 τ' wr.drew w' → AddPost B τ W p n cs lf t hs c (.slice (some ⟨wb, 0, none⟩) (2 * n) (2 * n)) tv hv w') := fun τ' w' cv' lv' k s =>
          .inr ⟨HT.out, τ', cv', lv', F2, by rw [← HL.out]; exact k, by rw [← HL.out]; exact HF2.out, S3.out.trans s⟩
        have HM1 : Hid (cs.length + 1 ≤ maxLen) := by show cs.length + 1 ≤ maxLen; unfold maxLen; omega
        have HM2 : Hid ((cs.length + 1) * 24 ≤ 140737488355328) := by show (cs.length + 1) * 24 ≤ 140737488355328; omega
        have HM3 : Hid (lf.length + 1 ≤ maxLen) := by show lf.length + 1 ≤ maxLen; unfold maxLen; omega
        have HM4 : Hid ((lf.length + 1) * 8 ≤ 140737488355328) := by show (lf.length + 1) * 8 ≤ 140737488355328; omega
        clear hcr hcl2 hcs2 DR s0 S1 S2 F2e HF2 L1 H2 S3 H1 HWl
        go_wp2_with fail
        refine region_last (S := fun w' => w'.cell? ⟨p, 1, none⟩ = some (.slice lA lf.length lcap)) (by kernel_rfl) (by rfl) (by rfl) (by kernel_rfl) c1d (fun hHeld => ?_)
        generalize wr.drew = w0 at *
        have KX : ∀ X, Below w0.heap.size w0 X → X.cell? ⟨p, 0, none⟩ = some (.slice cA cs.length ccap) ∧ X.cell? ⟨p, 1, none⟩ = some (.slice lA lf.length lcap) := fun X b => ⟨(b.cell (lt_of_cell c0d)).trans c0d, (b.cell (lt_of_cell c1d)).trans c1d⟩
        have kxA := KX (w0.alloc (.cells #[.slice A1 l.length cap1] 36)) ((Below.refl _ _).alloc (Nat.le_refl _) _)
        have kxB := KX (w0.alloc (.cells #[.int .i64 (l.length : Nat)] 3)) ((Below.refl _ _).alloc (Nat.le_refl _) _)
        have kxAB := KX ((w0.alloc (.cells #[.slice A1 l.length cap1] 36)).alloc (.cells #[.int .i64 (l.length : Nat)] 3)) (((Below.refl _ _).alloc (Nat.le_refl _) _).alloc (by simp) _)
        have kxBA := KX ((w0.alloc (.cells #[.int .i64 (l.length : Nat)] 3)).alloc (.cells #[.slice A1 l.length cap1] 36)) (((Below.refl _ _).alloc (Nat.le_refl _) _).alloc (by simp) _)
        clear KX
        simp only [List.pop_toArray, List.dropLast_cons_cons, List.dropLast_singleton]
        refine wpAnyH_take (i := 0) (v := ?v25) rfl (by kernel_rfl) (by kernel_rfl) (by kernel_rfl) (fun _ _ _ h => h) (Or.inl ⟨by rfl, ?hy25⟩) (by assumption) ?rest25
        case hy25 => (intro w hSw; (try dsimp only at hSw); go_simp; try with_reducible rfl)
        (try simp only [Act.put, List.setIfInBounds_toArray, List.set_cons_zero, List.set_cons_succ])
        refine wpAnyH_take (i := 1) (v := ?v26) rfl (by kernel_rfl) (by kernel_rfl) (by kernel_rfl) (fun _ _ _ h => h) (Or.inl ⟨by rfl, ?hy26⟩) (by assumption) ?rest26
        case hy26 => (intro w hSw; (try dsimp only at hSw); go_simp; try with_reducible rfl)
        (try simp only [Act.put, List.setIfInBounds_toArray, List.set_cons_zero, List.set_cons_succ])
        refine wpAnyH_take (i := 2) (v := ?v27) rfl (by kernel_rfl) (by kernel_rfl) (by kernel_rfl) (fun _ _ _ h => h) (Or.inl ⟨by rfl, ?hy27⟩) (by assumption) ?rest27
        case hy27 => (intro w hSw; (try dsimp only at hSw); go_simp; try with_reducible rfl)
        (try simp only [Act.put, List.setIfInBounds_toArray, List.set_cons_zero, List.set_cons_succ])
        refine wpAnyH_take (i := 3) (v := ?v28) rfl (by kernel_rfl) (by kernel_rfl) (by kernel_rfl) (fun _ _ _ h => h) (Or.inl ⟨by rfl, ?hy28⟩) (by assumption) ?rest28
        case hy28 => (intro w hSw; (try dsimp only at hSw); go_simp; try with_reducible rfl)
        (try simp only [Act.put, List.setIfInBounds_toArray, List.set_cons_zero, List.set_cons_succ])
        refine wpAnyH_take (i := 4) (v := ?v29) rfl (by kernel_rfl) (by kernel_rfl) (by kernel_rfl) (fun _ _ _ h => h) (Or.inl ⟨by rfl, ?hy29⟩) (by assumption) ?rest29
        case hy29 => (intro w hSw; (try dsimp only at hSw); go_simp; try with_reducible rfl)
        (try simp only [Act.put, List.setIfInBounds_toArray, List.set_cons_zero, List.set_cons_succ])
        refine wpAnyH_take (i := 6) (v := ?v30) rfl (by kernel_rfl) (by kernel_rfl) (by kernel_rfl) (fun _ _ _ h => h) (Or.inl ⟨by rfl, ?hy30⟩) (by assumption) ?rest30
        case hy30 => (intro w hSw; (try dsimp only at hSw); go_simp; try with_reducible rfl)
        (try simp only [Act.put, List.setIfInBounds_toArray, List.set_cons_zero, List.set_cons_succ])
        refine wpAnyH_take (i := 9) (v := ?v31) rfl (by kernel_rfl) (by kernel_rfl) (by kernel_rfl) (fun _ _ _ h => h) (Or.inl ⟨by rfl, ?hy31⟩) (by assumption) ?rest31
        case hy31 => (intro w hSw; (try dsimp only at hSw); go_simp; try with_reducible rfl)
        (try simp only [Act.put, List.setIfInBounds_toArray, List.set_cons_zero, List.set_cons_succ])
        refine wpAnyH_take (i := 10) (v := ?v32) rfl (by kernel_rfl) (by kernel_rfl) (by kernel_rfl) (fun _ _ _ h => h) (Or.inl ⟨by rfl, ?hy32⟩) (by assumption) ?rest32
        case hy32 => (intro w hSw; (try dsimp only at hSw); go_simp; try with_reducible rfl)
        (try simp only [Act.put, List.setIfInBounds_toArray, List.set_cons_zero, List.set_cons_succ])
        refine wpAnyH_take (i := 11) (v := ?v33) rfl (by kernel_rfl) (by kernel_rfl) (by kernel_rfl) (fun _ _ _ h => h) (Or.inl ⟨by rfl, ?hy33⟩) (by assumption) ?rest33
        case hy33 => (intro w hSw; (try dsimp only at hSw); go_simp; try with_reducible rfl)
        (try simp only [Act.put, List.setIfInBounds_toArray, List.set_cons_zero, List.set_cons_succ])
        refine wpAnyH_take (i := 12) (v := ?v34) rfl (by kernel_rfl) (by kernel_rfl) (by kernel_rfl) (fun _ _ _ h => h) (Or.inl ⟨by rfl, ?hy34⟩) (by assumption) ?rest34
        case hy34 => (intro w hSw; (try dsimp only at hSw); go_simp; try with_reducible rfl)
        (try simp only [Act.put, List.setIfInBounds_toArray, List.set_cons_zero, List.set_cons_succ])
        refine wpAnyH_take (i := 13) (v := ?v35) rfl (by kernel_rfl) (by kernel_rfl) (by kernel_rfl) (fun _ _ _ h => h) (Or.inl ⟨by rfl, ?hy35⟩) (by assumption) ?rest35
        case hy35 => (intro w hSw; (try dsimp only at hSw); go_simp; try with_reducible rfl)
        (try simp only [Act.put, List.setIfInBounds_toArray, List.set_cons_zero, List.set_cons_succ])
        refine wpAnyH_take (i := 14) (v := ?v36) rfl (by kernel_rfl) (by kernel_rfl) (by kernel_rfl) (fun _ _ _ h => h) (Or.inl ⟨by rfl, ?hy36⟩) (by assumption) ?rest36
        case hy36 => (intro w hSw; (try dsimp only at hSw); go_simp; try with_reducible rfl)
        (try simp only [Act.put, List.setIfInBounds_toArray, List.set_cons_zero, List.set_cons_succ])
        refine wpAnyH_ready (rs := [5, 7, 15]) (by kernel_rfl) (by simp) ?_
        refine AllReadyH.cons rfl (fun K hK => ?_) ?_
        · skip
          go_simp
          refine hK.out _ _ ?_ (fun hHeld => ?_)
          · exact hHeld
          clear hK K
          (try simp only [Act.put, List.setIfInBounds_toArray, List.set_cons_zero, List.set_cons_succ])
          refine wpAnyH_ready (rs := [7, 15]) (by kernel_rfl) (by simp) ?_
          refine AllReadyH.cons rfl (fun K hK => ?_) ?_
          · skip
            go_simp
            refine hK.out _ _ ?_ (fun hHeld => ?_)
            · exact kxA.2
            clear hK K
            (try simp only [Act.put, List.setIfInBounds_toArray, List.set_cons_zero, List.set_cons_succ])
            refine wpAnyH_ready (rs := [8, 15]) (by kernel_rfl) (by simp) ?_
            refine AllReadyH.cons rfl (fun K hK => ?_) ?_
            · skip
              refine step_append_lies _ (by rfl) _ _ _ (by rfl) 0 36 i1 _ 1 24 Tryz.underlying22 HJ.out.1 HJ.out.2.1 HJ.out.2.2.1 HJ.out.2.2.2 rfl (by omega) (.slice cA cs.length ccap) cs.length cvs (by rfl) (by exact row_alike (HCV.out.alloc _) rfl) ⟨w0.heap.size, 0, none⟩ 1 1 [.slice A1 l.length cap1] (by rfl) (by rfl) (by exact World.news_of_block (cs := #[.slice A1 l.length cap1]) (t := 36) (fr := (0, 0)) (new_at_b (W := w0) rfl rfl)) (by simp [Value.oneCell']) (by omega) HM1.out HM2.out (Nat.zero_le _) (w0.heap.size + 1) (by simp) ?_
              intro g1 c1 w1 hown1 hg1 hat1 hlt1
              have bX : Below w0.heap.size w0 (w0.alloc (.cells #[.slice A1 l.length cap1] 36)) := (Below.refl _ _).alloc (by first | exact Nat.le_refl _ | (simp; done) | (simp; omega)) _
              have hg1' : (w0.alloc (.cells #[.slice A1 l.length cap1] 36)).grownBy w1 (Value.slice cA cs.length ccap).ownBlock := hg1
              obtain ⟨τA, kA, sA⟩ := H3.out.midA HCL.out HCS.out HCR.out LS3.out bX hg1' hown1 (hat1.imp id (fun e => by simp; omega))
              have k1 : w1.cell? ⟨p, 1, none⟩ = some (.slice lA lf.length lcap) := kA.blk.cell 1
              have kb1 : (w1.alloc (.cells #[.int .i64 (l.length : Nat)] 3)).cell? ⟨p, 1, none⟩ = some (.slice lA lf.length lcap) := (((Below.refl _ _).alloc (Nat.le_refl _) _).cell (lt_of_cell k1)).trans k1
              have KA := Lib.hid kA
              have SA := Lib.hid sA
              have HLA : Hid (w1.ownsRow 0 3 1 (.slice lA lf.length lcap) lf.length (ints lf)) := by have := kA.lrow.1; rw [List.length_map] at this; exact this
              clear hown1 hg1 hat1 hlt1 bX hg1' kA sA
              refine hK.out _ _ ?_ (fun hHeld => ?_)
              · exact k1
              clear hK K
              (try simp only [Act.put, List.setIfInBounds_toArray, List.set_cons_zero, List.set_cons_succ])
              refine wpAnyH_ready (rs := [15]) (by kernel_rfl) (by simp) ?_
              refine AllReadyH.cons rfl (fun K hK => ?_) ?_
              · skip
                go_simp
                refine hK.out _ _ ?_ (fun hHeld => ?_)
                · exact kb1
                clear hK K
                (try simp only [Act.put, List.setIfInBounds_toArray, List.set_cons_zero, List.set_cons_succ])
                refine wpAnyH_ready (rs := [16]) (by kernel_rfl) (by simp) ?_
                refine AllReadyH.cons rfl (fun K hK => ?_) ?_
                · skip
                  refine step_append_lies _ (by rfl) _ _ _ (by rfl) 0 3 i0 _ 1 8 Tryz.underlying36 HI.out.1 HI.out.2.1 HI.out.2.2.1 HI.out.2.2.2 rfl (by omega) (.slice lA lf.length lcap) lf.length (ints lf) (by rfl) (by exact row_alike (HLA.out.alloc _) rfl) ⟨w1.heap.size, 0, none⟩ 1 1 [.int .i64 (l.length : Nat)] (by rfl) (by rfl) (by exact World.news_of_block (cs := #[.int .i64 (l.length : Nat)]) (t := 3) (fr := (0, 0)) (new_at_b (W := w1) rfl rfl)) (by simp [Value.oneCell']) (by omega) HM3.out HM4.out (Nat.zero_le _) (w1.heap.size + 1) (by first | rfl | simp) ?_
                  intro g2 c2 w2 hown2 hg2 hat2 hlt2
                  have bY : Below w1.heap.size w1 (w1.alloc (.cells #[.int .i64 (l.length : Nat)] 3)) := (Below.refl _ _).alloc (by first | exact Nat.le_refl _ | (simp; done) | (simp; omega)) _
                  have hg2' : (w1.alloc (.cells #[.int .i64 (l.length : Nat)] 3)).grownBy w2 (Value.slice lA lf.length lcap).ownBlock := hg2
                  obtain ⟨τB, kB, sB⟩ := KA.out.midB bY hg2' hown2 (hat2.imp id (fun e => by (try simp); omega))
                  have q0 : w2.cell? ⟨p, 0, none⟩ = some (.slice cA cs.length ccap) := kB.blk.cell 0
                  have q1 : w2.cell? ⟨p, 1, none⟩ = some (.slice lA lf.length lcap) := kB.blk.cell 1
                  have f0 : w2.frozen? ⟨p, 0, none⟩ = false := kB.blk.free 0
                  obtain ⟨kC, sC⟩ := kB.setP 0 (.slice (some ⟨g1, 0, none⟩) (cs.length + 1) c1)
                  have q1' : (w2.setCell ⟨p, 0, none⟩ (.slice (some ⟨g1, 0, none⟩) (cs.length + 1) c1)).cell? ⟨p, 1, none⟩ = some (.slice lA lf.length lcap) := kC.blk.cell 1
                  have f1' : (w2.setCell ⟨p, 0, none⟩ (.slice (some ⟨g1, 0, none⟩) (cs.length + 1) c1)).frozen? ⟨p, 1, none⟩ = false := kC.blk.free 1
                  obtain ⟨kD, sD⟩ := kC.setP 1 (.slice (some ⟨g2, 0, none⟩) (lf.length + 1) c2)
                  rw [pcs_set] at kD
                  have HFIN := Lib.hid (FIN.out _ _ _ _ kD ((SA.out.trans sB).trans ((sC.mono (fun r h => .inl h)).trans (sD.mono (fun r h => .inl h)))))
                  clear hown2 hg2 hat2 hlt2 bY hg2' kB sB kC sC kD sD
                  refine hK.out _ _ ?_ (fun hHeld => ?_)
                  · exact q1
                  clear hK K
                  (try simp only [Act.put, List.setIfInBounds_toArray, List.set_cons_zero, List.set_cons_succ])
                  refine wpAnyH_take (i := 17) (v := ?v37) rfl (by kernel_rfl) (by kernel_rfl) (by kernel_rfl) (fun _ _ _ h => h) (Or.inl ⟨by rfl, ?hy37⟩) (by assumption) ?rest37
                  case hy37 => (intro w hSw; (try dsimp only at hSw); go_simp; try with_reducible rfl)
                  (try simp only [Act.put, List.setIfInBounds_toArray, List.set_cons_zero, List.set_cons_succ])
                  refine wpAnyH_take (i := 18) (v := ?v38) rfl (by kernel_rfl) (by kernel_rfl) (by kernel_rfl) (fun _ _ _ h => h) (Or.inl ⟨by rfl, ?hy38⟩) (by assumption) ?rest38
                  case hy38 => (intro w hSw; (try dsimp only at hSw); go_simp; try with_reducible rfl)
                  (try simp only [Act.put, List.setIfInBounds_toArray, List.set_cons_zero, List.set_cons_succ])
                  refine wpAnyH_ready (rs := [19]) (by kernel_rfl) (by simp) ?_
                  refine AllReadyH.cons rfl (fun K hK => ?_) ?_
                  · skip
                    go_simp
                    refine hK.out _ _ ?_ (fun hHeld => ?_)
                    · exact q1'
                    clear hK K
                    (try simp only [Act.put, List.setIfInBounds_toArray, List.set_cons_zero, List.set_cons_succ])
                    refine wpAnyH_take (i := 20) (v := ?v39) rfl (by kernel_rfl) (by kernel_rfl) (by kernel_rfl) (fun _ _ _ h => h) (Or.inl ⟨by rfl, ?hy39⟩) (by assumption) ?rest39
                    case hy39 => (intro w hSw; (try dsimp only at hSw); go_simp; try with_reducible rfl)
                    (try simp only [Act.put, List.setIfInBounds_toArray, List.set_cons_zero, List.set_cons_succ])
                    refine wpAnyH_take (i := 21) (v := ?v40) rfl (by kernel_rfl) (by kernel_rfl) (by kernel_rfl) (fun _ _ _ h => h) (Or.inl ⟨by rfl, ?hy40⟩) (by assumption) ?rest40
                    case hy40 => (intro w hSw; (try dsimp only at hSw); go_simp; try with_reducible rfl)
                    (try simp only [Act.put, List.setIfInBounds_toArray, List.set_cons_zero, List.set_cons_succ])
                    refine wpAnyH_done (by kernel_rfl) ?_ _
                    show Oper.wp _ _ _ _ _ _
                    simp only [List.getElem_toArray, List.getElem_cons_succ, List.getElem_cons_zero]
                    go_simp
                    go_wp2_with fail
                    go_end0
                    exact ⟨rfl, HFIN.out⟩
                  exact AllReadyH.nil
                exact AllReadyH.nil
              exact AllReadyH.nil
            refine AllReadyH.cons rfl (fun K hK => ?_) ?_
            · skip
              go_simp
              refine hK.out _ _ ?_ (fun hHeld => ?_)
              · exact kxAB.2
              clear hK K
              (try simp only [Act.put, List.setIfInBounds_toArray, List.set_cons_zero, List.set_cons_succ])
              refine wpAnyH_ready (rs := [8]) (by kernel_rfl) (by simp) ?_
              refine AllReadyH.cons rfl (fun K hK => ?_) ?_
              · skip
                refine step_append_lies _ (by rfl) _ _ _ (by rfl) 0 36 i1 _ 1 24 Tryz.underlying22 HJ.out.1 HJ.out.2.1 HJ.out.2.2.1 HJ.out.2.2.2 rfl (by omega) (.slice cA cs.length ccap) cs.length cvs (by rfl) (by exact row_alike ((HCV.out.alloc _).alloc _) rfl) ⟨w0.heap.size, 0, none⟩ 1 1 [.slice A1 l.length cap1] (by rfl) (by rfl) (by exact World.news_of_block (cs := #[.slice A1 l.length cap1]) (t := 36) (fr := (0, 0)) (new_under (W := w0) rfl rfl)) (by simp [Value.oneCell']) (by omega) HM1.out HM2.out (Nat.zero_le _) (w0.heap.size + 2) (by simp) ?_
                intro g1 c1 w1 hown1 hg1 hat1 hlt1
                have bX : Below w0.heap.size w0 ((w0.alloc (.cells #[.slice A1 l.length cap1] 36)).alloc (.cells #[.int .i64 (l.length : Nat)] 3)) := ((Below.refl _ _).alloc (by first | exact Nat.le_refl _ | (simp; done) | (simp; omega)) _).alloc (by first | exact Nat.le_refl _ | (simp; done) | (simp; omega)) _
                have hg1' : ((w0.alloc (.cells #[.slice A1 l.length cap1] 36)).alloc (.cells #[.int .i64 (l.length : Nat)] 3)).grownBy w1 (Value.slice cA cs.length ccap).ownBlock := hg1
                obtain ⟨τA, kA, sA⟩ := H3.out.midA HCL.out HCS.out HCR.out LS3.out bX hg1' hown1 (hat1.imp id (fun e => by simp; omega))
                have uB := Lib.hid (show w1.heap[w0.heap.size + 1]? = some (.cells #[.int .i64 (l.length : Nat)] 3) from (hg1'.block _ (by first | (simp; done) | (simp; omega)) (fun e => by have := HCR.out.lt e.symm; omega)).trans (by exact new_at_b (W := w0.alloc (.cells #[.slice A1 l.length cap1] 36)) (by simp) rfl))
                have k1 : w1.cell? ⟨p, 1, none⟩ = some (.slice lA lf.length lcap) := kA.blk.cell 1
                have kb1 : (w1.alloc (.cells #[.int .i64 (l.length : Nat)] 3)).cell? ⟨p, 1, none⟩ = some (.slice lA lf.length lcap) := (((Below.refl _ _).alloc (Nat.le_refl _) _).cell (lt_of_cell k1)).trans k1
                have KA := Lib.hid kA
                have SA := Lib.hid sA
                have HLA : Hid (w1.ownsRow 0 3 1 (.slice lA lf.length lcap) lf.length (ints lf)) := by have := kA.lrow.1; rw [List.length_map] at this; exact this
                clear hown1 hg1 hat1 hlt1 bX hg1' kA sA
                refine hK.out _ _ ?_ (fun hHeld => ?_)
                · exact k1
                clear hK K
                (try simp only [Act.put, List.setIfInBounds_toArray, List.set_cons_zero, List.set_cons_succ])
                refine wpAnyH_ready (rs := [16]) (by kernel_rfl) (by simp) ?_
                refine AllReadyH.cons rfl (fun K hK => ?_) ?_
                · skip
                  refine step_append_lies _ (by rfl) _ _ _ (by rfl) 0 3 i0 _ 1 8 Tryz.underlying36 HI.out.1 HI.out.2.1 HI.out.2.2.1 HI.out.2.2.2 rfl (by omega) (.slice lA lf.length lcap) lf.length (ints lf) (by rfl) (by exact row_alike HLA.out rfl) ⟨w0.heap.size + 1, 0, none⟩ 1 1 [.int .i64 (l.length : Nat)] (by rfl) (by rfl) (by exact World.news_of_block (cs := #[.int .i64 (l.length : Nat)]) (t := 3) (fr := (0, 0)) (uB.out)) (by simp [Value.oneCell']) (by omega) HM3.out HM4.out (Nat.zero_le _) (w1.heap.size) (by first | rfl | simp) ?_
                  intro g2 c2 w2 hown2 hg2 hat2 hlt2
                  have bY : Below w1.heap.size w1 w1 := Below.refl _ _
                  have hg2' : w1.grownBy w2 (Value.slice lA lf.length lcap).ownBlock := hg2
                  obtain ⟨τB, kB, sB⟩ := KA.out.midB bY hg2' hown2 (hat2.imp id (fun e => by (try simp); omega))
                  have q0 : w2.cell? ⟨p, 0, none⟩ = some (.slice cA cs.length ccap) := kB.blk.cell 0
                  have q1 : w2.cell? ⟨p, 1, none⟩ = some (.slice lA lf.length lcap) := kB.blk.cell 1
                  have f0 : w2.frozen? ⟨p, 0, none⟩ = false := kB.blk.free 0
                  obtain ⟨kC, sC⟩ := kB.setP 0 (.slice (some ⟨g1, 0, none⟩) (cs.length + 1) c1)
                  have q1' : (w2.setCell ⟨p, 0, none⟩ (.slice (some ⟨g1, 0, none⟩) (cs.length + 1) c1)).cell? ⟨p, 1, none⟩ = some (.slice lA lf.length lcap) := kC.blk.cell 1
                  have f1' : (w2.setCell ⟨p, 0, none⟩ (.slice (some ⟨g1, 0, none⟩) (cs.length + 1) c1)).frozen? ⟨p, 1, none⟩ = false := kC.blk.free 1
                  obtain ⟨kD, sD⟩ := kC.setP 1 (.slice (some ⟨g2, 0, none⟩) (lf.length + 1) c2)
                  rw [pcs_set] at kD
                  have HFIN := Lib.hid (FIN.out _ _ _ _ kD ((SA.out.trans sB).trans ((sC.mono (fun r h => .inl h)).trans (sD.mono (fun r h => .inl h)))))
                  clear hown2 hg2 hat2 hlt2 bY hg2' kB sB kC sC kD sD
                  refine hK.out _ _ ?_ (fun hHeld => ?_)
                  · exact q1
                  clear hK K
                  (try simp only [Act.put, List.setIfInBounds_toArray, List.set_cons_zero, List.set_cons_succ])
                  refine wpAnyH_take (i := 17) (v := ?v41) rfl (by kernel_rfl) (by kernel_rfl) (by kernel_rfl) (fun _ _ _ h => h) (Or.inl ⟨by rfl, ?hy41⟩) (by assumption) ?rest41
                  case hy41 => (intro w hSw; (try dsimp only at hSw); go_simp; try with_reducible rfl)
                  (try simp only [Act.put, List.setIfInBounds_toArray, List.set_cons_zero, List.set_cons_succ])
                  refine wpAnyH_take (i := 18) (v := ?v42) rfl (by kernel_rfl) (by kernel_rfl) (by kernel_rfl) (fun _ _ _ h => h) (Or.inl ⟨by rfl, ?hy42⟩) (by assumption) ?rest42
                  case hy42 => (intro w hSw; (try dsimp only at hSw); go_simp; try with_reducible rfl)
                  (try simp only [Act.put, List.setIfInBounds_toArray, List.set_cons_zero, List.set_cons_succ])
                  refine wpAnyH_ready (rs := [19]) (by kernel_rfl) (by simp) ?_
                  refine AllReadyH.cons rfl (fun K hK => ?_) ?_
                  · skip
                    go_simp
                    refine hK.out _ _ ?_ (fun hHeld => ?_)
                    · exact q1'
                    clear hK K
                    (try simp only [Act.put, List.setIfInBounds_toArray, List.set_cons_zero, List.set_cons_succ])
                    refine wpAnyH_take (i := 20) (v := ?v43) rfl (by kernel_rfl) (by kernel_rfl) (by kernel_rfl) (fun _ _ _ h => h) (Or.inl ⟨by rfl, ?hy43⟩) (by assumption) ?rest43
                    case hy43 => (intro w hSw; (try dsimp only at hSw); go_simp; try with_reducible rfl)
                    (try simp only [Act.put, List.setIfInBounds_toArray, List.set_cons_zero, List.set_cons_succ])
                    refine wpAnyH_take (i := 21) (v := ?v44) rfl (by kernel_rfl) (by kernel_rfl) (by kernel_rfl) (fun _ _ _ h => h) (Or.inl ⟨by rfl, ?hy44⟩) (by assumption) ?rest44
                    case hy44 => (intro w hSw; (try dsimp only at hSw); go_simp; try with_reducible rfl)
                    (try simp only [Act.put, List.setIfInBounds_toArray, List.set_cons_zero, List.set_cons_succ])
                    refine wpAnyH_done (by kernel_rfl) ?_ _
                    show Oper.wp _ _ _ _ _ _
                    simp only [List.getElem_toArray, List.getElem_cons_succ, List.getElem_cons_zero]
                    go_simp
                    go_wp2_with fail
                    go_end0
                    exact ⟨rfl, HFIN.out⟩
                  exact AllReadyH.nil
                exact AllReadyH.nil
              exact AllReadyH.nil
            exact AllReadyH.nil
          refine AllReadyH.cons rfl (fun K hK => ?_) ?_
          · skip
            go_simp
            refine hK.out _ _ ?_ (fun hHeld => ?_)
            · exact kxB.2
            clear hK K
            (try simp only [Act.put, List.setIfInBounds_toArray, List.set_cons_zero, List.set_cons_succ])
            refine wpAnyH_ready (rs := [7]) (by kernel_rfl) (by simp) ?_
            refine AllReadyH.cons rfl (fun K hK => ?_) ?_
            · skip
              go_simp
              refine hK.out _ _ ?_ (fun hHeld => ?_)
              · exact kxBA.2
              clear hK K
              (try simp only [Act.put, List.setIfInBounds_toArray, List.set_cons_zero, List.set_cons_succ])
              refine wpAnyH_ready (rs := [8]) (by kernel_rfl) (by simp) ?_
              refine AllReadyH.cons rfl (fun K hK => ?_) ?_
              · skip
                refine step_append_lies _ (by rfl) _ _ _ (by rfl) 0 36 i1 _ 1 24 Tryz.underlying22 HJ.out.1 HJ.out.2.1 HJ.out.2.2.1 HJ.out.2.2.2 rfl (by omega) (.slice cA cs.length ccap) cs.length cvs (by rfl) (by exact row_alike ((HCV.out.alloc _).alloc _) rfl) ⟨w0.heap.size + 1, 0, none⟩ 1 1 [.slice A1 l.length cap1] (by rfl) (by rfl) (by exact World.news_of_block (cs := #[.slice A1 l.length cap1]) (t := 36) (fr := (0, 0)) (new_at_b (W := w0.alloc (.cells #[.int .i64 (l.length : Nat)] 3)) (by simp) rfl)) (by simp [Value.oneCell']) (by omega) HM1.out HM2.out (Nat.zero_le _) (w0.heap.size + 2) (by simp) ?_
                intro g1 c1 w1 hown1 hg1 hat1 hlt1
                have bX : Below w0.heap.size w0 ((w0.alloc (.cells #[.int .i64 (l.length : Nat)] 3)).alloc (.cells #[.slice A1 l.length cap1] 36)) := ((Below.refl _ _).alloc (by first | exact Nat.le_refl _ | (simp; done) | (simp; omega)) _).alloc (by first | exact Nat.le_refl _ | (simp; done) | (simp; omega)) _
                have hg1' : ((w0.alloc (.cells #[.int .i64 (l.length : Nat)] 3)).alloc (.cells #[.slice A1 l.length cap1] 36)).grownBy w1 (Value.slice cA cs.length ccap).ownBlock := hg1
                obtain ⟨τA, kA, sA⟩ := H3.out.midA HCL.out HCS.out HCR.out LS3.out bX hg1' hown1 (hat1.imp id (fun e => by simp; omega))
                have uB := Lib.hid (show w1.heap[w0.heap.size]? = some (.cells #[.int .i64 (l.length : Nat)] 3) from (hg1'.block _ (by first | (simp; done) | (simp; omega)) (fun e => by have := HCR.out.lt e.symm; omega)).trans (by exact new_under (W := w0) rfl rfl))
                have k1 : w1.cell? ⟨p, 1, none⟩ = some (.slice lA lf.length lcap) := kA.blk.cell 1
                have kb1 : (w1.alloc (.cells #[.int .i64 (l.length : Nat)] 3)).cell? ⟨p, 1, none⟩ = some (.slice lA lf.length lcap) := (((Below.refl _ _).alloc (Nat.le_refl _) _).cell (lt_of_cell k1)).trans k1
                have KA := Lib.hid kA
                have SA := Lib.hid sA
                have HLA : Hid (w1.ownsRow 0 3 1 (.slice lA lf.length lcap) lf.length (ints lf)) := by have := kA.lrow.1; rw [List.length_map] at this; exact this
                clear hown1 hg1 hat1 hlt1 bX hg1' kA sA
                refine hK.out _ _ ?_ (fun hHeld => ?_)
                · exact k1
                clear hK K
                (try simp only [Act.put, List.setIfInBounds_toArray, List.set_cons_zero, List.set_cons_succ])
                refine wpAnyH_ready (rs := [16]) (by kernel_rfl) (by simp) ?_
                refine AllReadyH.cons rfl (fun K hK => ?_) ?_
                · skip
                  refine step_append_lies _ (by rfl) _ _ _ (by rfl) 0 3 i0 _ 1 8 Tryz.underlying36 HI.out.1 HI.out.2.1 HI.out.2.2.1 HI.out.2.2.2 rfl (by omega) (.slice lA lf.length lcap) lf.length (ints lf) (by rfl) (by exact row_alike HLA.out rfl) ⟨w0.heap.size, 0, none⟩ 1 1 [.int .i64 (l.length : Nat)] (by rfl) (by rfl) (by exact World.news_of_block (cs := #[.int .i64 (l.length : Nat)]) (t := 3) (fr := (0, 0)) (uB.out)) (by simp [Value.oneCell']) (by omega) HM3.out HM4.out (Nat.zero_le _) (w1.heap.size) (by first | rfl | simp) ?_
                  intro g2 c2 w2 hown2 hg2 hat2 hlt2
                  have bY : Below w1.heap.size w1 w1 := Below.refl _ _
                  have hg2' : w1.grownBy w2 (Value.slice lA lf.length lcap).ownBlock := hg2
                  obtain ⟨τB, kB, sB⟩ := KA.out.midB bY hg2' hown2 (hat2.imp id (fun e => by (try simp); omega))
                  have q0 : w2.cell? ⟨p, 0, none⟩ = some (.slice cA cs.length ccap) := kB.blk.cell 0
                  have q1 : w2.cell? ⟨p, 1, none⟩ = some (.slice lA lf.length lcap) := kB.blk.cell 1
                  have f0 : w2.frozen? ⟨p, 0, none⟩ = false := kB.blk.free 0
                  obtain ⟨kC, sC⟩ := kB.setP 0 (.slice (some ⟨g1, 0, none⟩) (cs.length + 1) c1)
                  have q1' : (w2.setCell ⟨p, 0, none⟩ (.slice (some ⟨g1, 0, none⟩) (cs.length + 1) c1)).cell? ⟨p, 1, none⟩ = some (.slice lA lf.length lcap) := kC.blk.cell 1
                  have f1' : (w2.setCell ⟨p, 0, none⟩ (.slice (some ⟨g1, 0, none⟩) (cs.length + 1) c1)).frozen? ⟨p, 1, none⟩ = false := kC.blk.free 1
                  obtain ⟨kD, sD⟩ := kC.setP 1 (.slice (some ⟨g2, 0, none⟩) (lf.length + 1) c2)
                  rw [pcs_set] at kD
                  have HFIN := Lib.hid (FIN.out _ _ _ _ kD ((SA.out.trans sB).trans ((sC.mono (fun r h => .inl h)).trans (sD.mono (fun r h => .inl h)))))
                  clear hown2 hg2 hat2 hlt2 bY hg2' kB sB kC sC kD sD
                  refine hK.out _ _ ?_ (fun hHeld => ?_)
                  · exact q1
                  clear hK K
                  (try simp only [Act.put, List.setIfInBounds_toArray, List.set_cons_zero, List.set_cons_succ])
                  refine wpAnyH_take (i := 17) (v := ?v45) rfl (by kernel_rfl) (by kernel_rfl) (by kernel_rfl) (fun _ _ _ h => h) (Or.inl ⟨by rfl, ?hy45⟩) (by assumption) ?rest45
                  case hy45 => (intro w hSw; (try dsimp only at hSw); go_simp; try with_reducible rfl)
                  (try simp only [Act.put, List.setIfInBounds_toArray, List.set_cons_zero, List.set_cons_succ])
                  refine wpAnyH_take (i := 18) (v := ?v46) rfl (by kernel_rfl) (by kernel_rfl) (by kernel_rfl) (fun _ _ _ h => h) (Or.inl ⟨by rfl, ?hy46⟩) (by assumption) ?rest46
                  case hy46 => (intro w hSw; (try dsimp only at hSw); go_simp; try with_reducible rfl)
                  (try simp only [Act.put, List.setIfInBounds_toArray, List.set_cons_zero, List.set_cons_succ])
                  refine wpAnyH_ready (rs := [19]) (by kernel_rfl) (by simp) ?_
                  refine AllReadyH.cons rfl (fun K hK => ?_) ?_
                  · skip
                    go_simp
                    refine hK.out _ _ ?_ (fun hHeld => ?_)
                    · exact q1'
                    clear hK K
                    (try simp only [Act.put, List.setIfInBounds_toArray, List.set_cons_zero, List.set_cons_succ])
                    refine wpAnyH_take (i := 20) (v := ?v47) rfl (by kernel_rfl) (by kernel_rfl) (by kernel_rfl) (fun _ _ _ h => h) (Or.inl ⟨by rfl, ?hy47⟩) (by assumption) ?rest47
                    case hy47 => (intro w hSw; (try dsimp only at hSw); go_simp; try with_reducible rfl)
                    (try simp only [Act.put, List.setIfInBounds_toArray, List.set_cons_zero, List.set_cons_succ])
                    refine wpAnyH_take (i := 21) (v := ?v48) rfl (by kernel_rfl) (by kernel_rfl) (by kernel_rfl) (fun _ _ _ h => h) (Or.inl ⟨by rfl, ?hy48⟩) (by assumption) ?rest48
                    case hy48 => (intro w hSw; (try dsimp only at hSw); go_simp; try with_reducible rfl)
                    (try simp only [Act.put, List.setIfInBounds_toArray, List.set_cons_zero, List.set_cons_succ])
                    refine wpAnyH_done (by kernel_rfl) ?_ _
                    show Oper.wp _ _ _ _ _ _
                    simp only [List.getElem_toArray, List.getElem_cons_succ, List.getElem_cons_zero]
                    go_simp
                    go_wp2_with fail
                    go_end0
                    exact ⟨rfl, HFIN.out⟩
                  exact AllReadyH.nil
                exact AllReadyH.nil
              exact AllReadyH.nil
            exact AllReadyH.nil
          exact AllReadyH.nil
        refine AllReadyH.cons rfl (fun K hK => ?_) ?_
        · skip
          go_simp
          refine hK.out _ _ ?_ (fun hHeld => ?_)
          · exact kxA.2
          clear hK K
          (try simp only [Act.put, List.setIfInBounds_toArray, List.set_cons_zero, List.set_cons_succ])
          refine wpAnyH_ready (rs := [5, 15]) (by kernel_rfl) (by simp) ?_
          refine AllReadyH.cons rfl (fun K hK => ?_) ?_
          · skip
            go_simp
            refine hK.out _ _ ?_ (fun hHeld => ?_)
            · exact hHeld
            clear hK K
            (try simp only [Act.put, List.setIfInBounds_toArray, List.set_cons_zero, List.set_cons_succ])
            refine wpAnyH_ready (rs := [8, 15]) (by kernel_rfl) (by simp) ?_
            refine AllReadyH.cons rfl (fun K hK => ?_) ?_
            · skip
              refine step_append_lies _ (by rfl) _ _ _ (by rfl) 0 36 i1 _ 1 24 Tryz.underlying22 HJ.out.1 HJ.out.2.1 HJ.out.2.2.1 HJ.out.2.2.2 rfl (by omega) (.slice cA cs.length ccap) cs.length cvs (by rfl) (by exact row_alike (HCV.out.alloc _) rfl) ⟨w0.heap.size, 0, none⟩ 1 1 [.slice A1 l.length cap1] (by rfl) (by rfl) (by exact World.news_of_block (cs := #[.slice A1 l.length cap1]) (t := 36) (fr := (0, 0)) (new_at_b (W := w0) rfl rfl)) (by simp [Value.oneCell']) (by omega) HM1.out HM2.out (Nat.zero_le _) (w0.heap.size + 1) (by simp) ?_
              intro g1 c1 w1 hown1 hg1 hat1 hlt1
              have bX : Below w0.heap.size w0 (w0.alloc (.cells #[.slice A1 l.length cap1] 36)) := (Below.refl _ _).alloc (by first | exact Nat.le_refl _ | (simp; done) | (simp; omega)) _
              have hg1' : (w0.alloc (.cells #[.slice A1 l.length cap1] 36)).grownBy w1 (Value.slice cA cs.length ccap).ownBlock := hg1
              obtain ⟨τA, kA, sA⟩ := H3.out.midA HCL.out HCS.out HCR.out LS3.out bX hg1' hown1 (hat1.imp id (fun e => by simp; omega))
              have k1 : w1.cell? ⟨p, 1, none⟩ = some (.slice lA lf.length lcap) := kA.blk.cell 1
              have kb1 : (w1.alloc (.cells #[.int .i64 (l.length : Nat)] 3)).cell? ⟨p, 1, none⟩ = some (.slice lA lf.length lcap) := (((Below.refl _ _).alloc (Nat.le_refl _) _).cell (lt_of_cell k1)).trans k1
              have KA := Lib.hid kA
              have SA := Lib.hid sA
              have HLA : Hid (w1.ownsRow 0 3 1 (.slice lA lf.length lcap) lf.length (ints lf)) := by have := kA.lrow.1; rw [List.length_map] at this; exact this
              clear hown1 hg1 hat1 hlt1 bX hg1' kA sA
              refine hK.out _ _ ?_ (fun hHeld => ?_)
              · exact k1
              clear hK K
              (try simp only [Act.put, List.setIfInBounds_toArray, List.set_cons_zero, List.set_cons_succ])
              refine wpAnyH_ready (rs := [15]) (by kernel_rfl) (by simp) ?_
              refine AllReadyH.cons rfl (fun K hK => ?_) ?_
              · skip
                go_simp
                refine hK.out _ _ ?_ (fun hHeld => ?_)
                · exact kb1
                clear hK K
                (try simp only [Act.put, List.setIfInBounds_toArray, List.set_cons_zero, List.set_cons_succ])
                refine wpAnyH_ready (rs := [16]) (by kernel_rfl) (by simp) ?_
                refine AllReadyH.cons rfl (fun K hK => ?_) ?_
                · skip
                  refine step_append_lies _ (by rfl) _ _ _ (by rfl) 0 3 i0 _ 1 8 Tryz.underlying36 HI.out.1 HI.out.2.1 HI.out.2.2.1 HI.out.2.2.2 rfl (by omega) (.slice lA lf.length lcap) lf.length (ints lf) (by rfl) (by exact row_alike (HLA.out.alloc _) rfl) ⟨w1.heap.size, 0, none⟩ 1 1 [.int .i64 (l.length : Nat)] (by rfl) (by rfl) (by exact World.news_of_block (cs := #[.int .i64 (l.length : Nat)]) (t := 3) (fr := (0, 0)) (new_at_b (W := w1) rfl rfl)) (by simp [Value.oneCell']) (by omega) HM3.out HM4.out (Nat.zero_le _) (w1.heap.size + 1) (by first | rfl | simp) ?_
                  intro g2 c2 w2 hown2 hg2 hat2 hlt2
                  have bY : Below w1.heap.size w1 (w1.alloc (.cells #[.int .i64 (l.length : Nat)] 3)) := (Below.refl _ _).alloc (by first | exact Nat.le_refl _ | (simp; done) | (simp; omega)) _
                  have hg2' : (w1.alloc (.cells #[.int .i64 (l.length : Nat)] 3)).grownBy w2 (Value.slice lA lf.length lcap).ownBlock := hg2
                  obtain ⟨τB, kB, sB⟩ := KA.out.midB bY hg2' hown2 (hat2.imp id (fun e => by (try simp); omega))
                  have q0 : w2.cell? ⟨p, 0, none⟩ = some (.slice cA cs.length ccap) := kB.blk.cell 0
                  have q1 : w2.cell? ⟨p, 1, none⟩ = some (.slice lA lf.length lcap) := kB.blk.cell 1
                  have f0 : w2.frozen? ⟨p, 0, none⟩ = false := kB.blk.free 0
                  obtain ⟨kC, sC⟩ := kB.setP 0 (.slice (some ⟨g1, 0, none⟩) (cs.length + 1) c1)
                  have q1' : (w2.setCell ⟨p, 0, none⟩ (.slice (some ⟨g1, 0, none⟩) (cs.length + 1) c1)).cell? ⟨p, 1, none⟩ = some (.slice lA lf.length lcap) := kC.blk.cell 1
                  have f1' : (w2.setCell ⟨p, 0, none⟩ (.slice (some ⟨g1, 0, none⟩) (cs.length + 1) c1)).frozen? ⟨p, 1, none⟩ = false := kC.blk.free 1
                  obtain ⟨kD, sD⟩ := kC.setP 1 (.slice (some ⟨g2, 0, none⟩) (lf.length + 1) c2)
                  rw [pcs_set] at kD
                  have HFIN := Lib.hid (FIN.out _ _ _ _ kD ((SA.out.trans sB).trans ((sC.mono (fun r h => .inl h)).trans (sD.mono (fun r h => .inl h)))))
                  clear hown2 hg2 hat2 hlt2 bY hg2' kB sB kC sC kD sD
                  refine hK.out _ _ ?_ (fun hHeld => ?_)
                  · exact q1
                  clear hK K
                  (try simp only [Act.put, List.setIfInBounds_toArray, List.set_cons_zero, List.set_cons_succ])
                  refine wpAnyH_take (i := 17) (v := ?v49) rfl (by kernel_rfl) (by kernel_rfl) (by kernel_rfl) (fun _ _ _ h => h) (Or.inl ⟨by rfl, ?hy49⟩) (by assumption) ?rest49
                  case hy49 => (intro w hSw; (try dsimp only at hSw); go_simp; try with_reducible rfl)
                  (try simp only [Act.put, List.setIfInBounds_toArray, List.set_cons_zero, List.set_cons_succ])
                  refine wpAnyH_take (i := 18) (v := ?v50) rfl (by kernel_rfl) (by kernel_rfl) (by kernel_rfl) (fun _ _ _ h => h) (Or.inl ⟨by rfl, ?hy50⟩) (by assumption) ?rest50
                  case hy50 => (intro w hSw; (try dsimp only at hSw); go_simp; try with_reducible rfl)
                  (try simp only [Act.put, List.setIfInBounds_toArray, List.set_cons_zero, List.set_cons_succ])
                  refine wpAnyH_ready (rs := [19]) (by kernel_rfl) (by simp) ?_
                  refine AllReadyH.cons rfl (fun K hK => ?_) ?_
                  · skip
                    go_simp
                    refine hK.out _ _ ?_ (fun hHeld => ?_)
                    · exact q1'
                    clear hK K
                    (try simp only [Act.put, List.setIfInBounds_toArray, List.set_cons_zero, List.set_cons_succ])
                    refine wpAnyH_take (i := 20) (v := ?v51) rfl (by kernel_rfl) (by kernel_rfl) (by kernel_rfl) (fun _ _ _ h => h) (Or.inl ⟨by rfl, ?hy51⟩) (by assumption) ?rest51
                    case hy51 => (intro w hSw; (try dsimp only at hSw); go_simp; try with_reducible rfl)
                    (try simp only [Act.put, List.setIfInBounds_toArray, List.set_cons_zero, List.set_cons_succ])
                    refine wpAnyH_take (i := 21) (v := ?v52) rfl (by kernel_rfl) (by kernel_rfl) (by kernel_rfl) (fun _ _ _ h => h) (Or.inl ⟨by rfl, ?hy52⟩) (by assumption) ?rest52
                    case hy52 => (intro w hSw; (try dsimp only at hSw); go_simp; try with_reducible rfl)
                    (try simp only [Act.put, List.setIfInBounds_toArray, List.set_cons_zero, List.set_cons_succ])
                    refine wpAnyH_done (by kernel_rfl) ?_ _
                    show Oper.wp _ _ _ _ _ _
                    simp only [List.getElem_toArray, List.getElem_cons_succ, List.getElem_cons_zero]
                    go_simp
                    go_wp2_with fail
                    go_end0
                    exact ⟨rfl, HFIN.out⟩
                  exact AllReadyH.nil
                exact AllReadyH.nil
              exact AllReadyH.nil
            refine AllReadyH.cons rfl (fun K hK => ?_) ?_
            · skip
              go_simp
              refine hK.out _ _ ?_ (fun hHeld => ?_)
              · exact kxAB.2
              clear hK K
              (try simp only [Act.put, List.setIfInBounds_toArray, List.set_cons_zero, List.set_cons_succ])
              refine wpAnyH_ready (rs := [8]) (by kernel_rfl) (by simp) ?_
              refine AllReadyH.cons rfl (fun K hK => ?_) ?_
              · skip
                refine step_append_lies _ (by rfl) _ _ _ (by rfl) 0 36 i1 _ 1 24 Tryz.underlying22 HJ.out.1 HJ.out.2.1 HJ.out.2.2.1 HJ.out.2.2.2 rfl (by omega) (.slice cA cs.length ccap) cs.length cvs (by rfl) (by exact row_alike ((HCV.out.alloc _).alloc _) rfl) ⟨w0.heap.size, 0, none⟩ 1 1 [.slice A1 l.length cap1] (by rfl) (by rfl) (by exact World.news_of_block (cs := #[.slice A1 l.length cap1]) (t := 36) (fr := (0, 0)) (new_under (W := w0) rfl rfl)) (by simp [Value.oneCell']) (by omega) HM1.out HM2.out (Nat.zero_le _) (w0.heap.size + 2) (by simp) ?_
                intro g1 c1 w1 hown1 hg1 hat1 hlt1
                have bX : Below w0.heap.size w0 ((w0.alloc (.cells #[.slice A1 l.length cap1] 36)).alloc (.cells #[.int .i64 (l.length : Nat)] 3)) := ((Below.refl _ _).alloc (by first | exact Nat.le_refl _ | (simp; done) | (simp; omega)) _).alloc (by first | exact Nat.le_refl _ | (simp; done) | (simp; omega)) _
                have hg1' : ((w0.alloc (.cells #[.slice A1 l.length cap1] 36)).alloc (.cells #[.int .i64 (l.length : Nat)] 3)).grownBy w1 (Value.slice cA cs.length ccap).ownBlock := hg1
                obtain ⟨τA, kA, sA⟩ := H3.out.midA HCL.out HCS.out HCR.out LS3.out bX hg1' hown1 (hat1.imp id (fun e => by simp; omega))
                have uB := Lib.hid (show w1.heap[w0.heap.size + 1]? = some (.cells #[.int .i64 (l.length : Nat)] 3) from (hg1'.block _ (by first | (simp; done) | (simp; omega)) (fun e => by have := HCR.out.lt e.symm; omega)).trans (by exact new_at_b (W := w0.alloc (.cells #[.slice A1 l.length cap1] 36)) (by simp) rfl))
                have k1 : w1.cell? ⟨p, 1, none⟩ = some (.slice lA lf.length lcap) := kA.blk.cell 1
                have kb1 : (w1.alloc (.cells #[.int .i64 (l.length : Nat)] 3)).cell? ⟨p, 1, none⟩ = some (.slice lA lf.length lcap) := (((Below.refl _ _).alloc (Nat.le_refl _) _).cell (lt_of_cell k1)).trans k1
                have KA := Lib.hid kA
                have SA := Lib.hid sA
                have HLA : Hid (w1.ownsRow 0 3 1 (.slice lA lf.length lcap) lf.length (ints lf)) := by have := kA.lrow.1; rw [List.length_map] at this; exact this
                clear hown1 hg1 hat1 hlt1 bX hg1' kA sA
                refine hK.out _ _ ?_ (fun hHeld => ?_)
                · exact k1
                clear hK K
                (try simp only [Act.put, List.setIfInBounds_toArray, List.set_cons_zero, List.set_cons_succ])
                refine wpAnyH_ready (rs := [16]) (by kernel_rfl) (by simp) ?_
                refine AllReadyH.cons rfl (fun K hK => ?_) ?_
                · skip
                  refine step_append_lies _ (by rfl) _ _ _ (by rfl) 0 3 i0 _ 1 8 Tryz.underlying36 HI.out.1 HI.out.2.1 HI.out.2.2.1 HI.out.2.2.2 rfl (by omega) (.slice lA lf.length lcap) lf.length (ints lf) (by rfl) (by exact row_alike HLA.out rfl) ⟨w0.heap.size + 1, 0, none⟩ 1 1 [.int .i64 (l.length : Nat)] (by rfl) (by rfl) (by exact World.news_of_block (cs := #[.int .i64 (l.length : Nat)]) (t := 3) (fr := (0, 0)) (uB.out)) (by simp [Value.oneCell']) (by omega) HM3.out HM4.out (Nat.zero_le _) (w1.heap.size) (by first | rfl | simp) ?_
                  intro g2 c2 w2 hown2 hg2 hat2 hlt2
                  have bY : Below w1.heap.size w1 w1 := Below.refl _ _
                  have hg2' : w1.grownBy w2 (Value.slice lA lf.length lcap).ownBlock := hg2
                  obtain ⟨τB, kB, sB⟩ := KA.out.midB bY hg2' hown2 (hat2.imp id (fun e => by (try simp); omega))
                  have q0 : w2.cell? ⟨p, 0, none⟩ = some (.slice cA cs.length ccap) := kB.blk.cell 0
                  have q1 : w2.cell? ⟨p, 1, none⟩ = some (.slice lA lf.length lcap) := kB.blk.cell 1
                  have f0 : w2.frozen? ⟨p, 0, none⟩ = false := kB.blk.free 0
                  obtain ⟨kC, sC⟩ := kB.setP 0 (.slice (some ⟨g1, 0, none⟩) (cs.length + 1) c1)
                  have q1' : (w2.setCell ⟨p, 0, none⟩ (.slice (some ⟨g1, 0, none⟩) (cs.length + 1) c1)).cell? ⟨p, 1, none⟩ = some (.slice lA lf.length lcap) := kC.blk.cell 1
                  have f1' : (w2.setCell ⟨p, 0, none⟩ (.slice (some ⟨g1, 0, none⟩) (cs.length + 1) c1)).frozen? ⟨p, 1, none⟩ = false := kC.blk.free 1
                  obtain ⟨kD, sD⟩ := kC.setP 1 (.slice (some ⟨g2, 0, none⟩) (lf.length + 1) c2)
                  rw [pcs_set] at kD
                  have HFIN := Lib.hid (FIN.out _ _ _ _ kD ((SA.out.trans sB).trans ((sC.mono (fun r h => .inl h)).trans (sD.mono (fun r h => .inl h)))))
                  clear hown2 hg2 hat2 hlt2 bY hg2' kB sB kC sC kD sD
                  refine hK.out _ _ ?_ (fun hHeld => ?_)
                  · exact q1
                  clear hK K
                  (try simp only [Act.put, List.setIfInBounds_toArray, List.set_cons_zero, List.set_cons_succ])
                  refine wpAnyH_take (i := 17) (v := ?v53) rfl (by kernel_rfl) (by kernel_rfl) (by kernel_rfl) (fun _ _ _ h => h) (Or.inl ⟨by rfl, ?hy53⟩) (by assumption) ?rest53
                  case hy53 => (intro w hSw; (try dsimp only at hSw); go_simp; try with_reducible rfl)
                  (try simp only [Act.put, List.setIfInBounds_toArray, List.set_cons_zero, List.set_cons_succ])
                  refine wpAnyH_take (i := 18) (v := ?v54) rfl (by kernel_rfl) (by kernel_rfl) (by kernel_rfl) (fun _ _ _ h => h) (Or.inl ⟨by rfl, ?hy54⟩) (by assumption) ?rest54
                  case hy54 => (intro w hSw; (try dsimp only at hSw); go_simp; try with_reducible rfl)
                  (try simp only [Act.put, List.setIfInBounds_toArray, List.set_cons_zero, List.set_cons_succ])
                  refine wpAnyH_ready (rs := [19]) (by kernel_rfl) (by simp) ?_
                  refine AllReadyH.cons rfl (fun K hK => ?_) ?_
                  · skip
                    go_simp
                    refine hK.out _ _ ?_ (fun hHeld => ?_)
                    · exact q1'
                    clear hK K
                    (try simp only [Act.put, List.setIfInBounds_toArray, List.set_cons_zero, List.set_cons_succ])
                    refine wpAnyH_take (i := 20) (v := ?v55) rfl (by kernel_rfl) (by kernel_rfl) (by kernel_rfl) (fun _ _ _ h => h) (Or.inl ⟨by rfl, ?hy55⟩) (by assumption) ?rest55
                    case hy55 => (intro w hSw; (try dsimp only at hSw); go_simp; try with_reducible rfl)
                    (try simp only [Act.put, List.setIfInBounds_toArray, List.set_cons_zero, List.set_cons_succ])
                    refine wpAnyH_take (i := 21) (v := ?v56) rfl (by kernel_rfl) (by kernel_rfl) (by kernel_rfl) (fun _ _ _ h => h) (Or.inl ⟨by rfl, ?hy56⟩) (by assumption) ?rest56
                    case hy56 => (intro w hSw; (try dsimp only at hSw); go_simp; try with_reducible rfl)
                    (try simp only [Act.put, List.setIfInBounds_toArray, List.set_cons_zero, List.set_cons_succ])
                    refine wpAnyH_done (by kernel_rfl) ?_ _
                    show Oper.wp _ _ _ _ _ _
                    simp only [List.getElem_toArray, List.getElem_cons_succ, List.getElem_cons_zero]
                    go_simp
                    go_wp2_with fail
                    go_end0
                    exact ⟨rfl, HFIN.out⟩
                  exact AllReadyH.nil
                exact AllReadyH.nil
              exact AllReadyH.nil
            exact AllReadyH.nil
          refine AllReadyH.cons rfl (fun K hK => ?_) ?_
          · skip
            go_simp
            refine hK.out _ _ ?_ (fun hHeld => ?_)
            · exact kxAB.2
            clear hK K
            (try simp only [Act.put, List.setIfInBounds_toArray, List.set_cons_zero, List.set_cons_succ])
            refine wpAnyH_ready (rs := [5]) (by kernel_rfl) (by simp) ?_
            refine AllReadyH.cons rfl (fun K hK => ?_) ?_
            · skip
              go_simp
              refine hK.out _ _ ?_ (fun hHeld => ?_)
              · exact hHeld
              clear hK K
              (try simp only [Act.put, List.setIfInBounds_toArray, List.set_cons_zero, List.set_cons_succ])
              refine wpAnyH_ready (rs := [8]) (by kernel_rfl) (by simp) ?_
              refine AllReadyH.cons rfl (fun K hK => ?_) ?_
              · skip
                refine step_append_lies _ (by rfl) _ _ _ (by rfl) 0 36 i1 _ 1 24 Tryz.underlying22 HJ.out.1 HJ.out.2.1 HJ.out.2.2.1 HJ.out.2.2.2 rfl (by omega) (.slice cA cs.length ccap) cs.length cvs (by rfl) (by exact row_alike ((HCV.out.alloc _).alloc _) rfl) ⟨w0.heap.size, 0, none⟩ 1 1 [.slice A1 l.length cap1] (by rfl) (by rfl) (by exact World.news_of_block (cs := #[.slice A1 l.length cap1]) (t := 36) (fr := (0, 0)) (new_under (W := w0) rfl rfl)) (by simp [Value.oneCell']) (by omega) HM1.out HM2.out (Nat.zero_le _) (w0.heap.size + 2) (by simp) ?_
                intro g1 c1 w1 hown1 hg1 hat1 hlt1
                have bX : Below w0.heap.size w0 ((w0.alloc (.cells #[.slice A1 l.length cap1] 36)).alloc (.cells #[.int .i64 (l.length : Nat)] 3)) := ((Below.refl _ _).alloc (by first | exact Nat.le_refl _ | (simp; done) | (simp; omega)) _).alloc (by first | exact Nat.le_refl _ | (simp; done) | (simp; omega)) _
                have hg1' : ((w0.alloc (.cells #[.slice A1 l.length cap1] 36)).alloc (.cells #[.int .i64 (l.length : Nat)] 3)).grownBy w1 (Value.slice cA cs.length ccap).ownBlock := hg1
                obtain ⟨τA, kA, sA⟩ := H3.out.midA HCL.out HCS.out HCR.out LS3.out bX hg1' hown1 (hat1.imp id (fun e => by simp; omega))
                have uB := Lib.hid (show w1.heap[w0.heap.size + 1]? = some (.cells #[.int .i64 (l.length : Nat)] 3) from (hg1'.block _ (by first | (simp; done) | (simp; omega)) (fun e => by have := HCR.out.lt e.symm; omega)).trans (by exact new_at_b (W := w0.alloc (.cells #[.slice A1 l.length cap1] 36)) (by simp) rfl))
                have k1 : w1.cell? ⟨p, 1, none⟩ = some (.slice lA lf.length lcap) := kA.blk.cell 1
                have kb1 : (w1.alloc (.cells #[.int .i64 (l.length : Nat)] 3)).cell? ⟨p, 1, none⟩ = some (.slice lA lf.length lcap) := (((Below.refl _ _).alloc (Nat.le_refl _) _).cell (lt_of_cell k1)).trans k1
                have KA := Lib.hid kA
                have SA := Lib.hid sA
                have HLA : Hid (w1.ownsRow 0 3 1 (.slice lA lf.length lcap) lf.length (ints lf)) := by have := kA.lrow.1; rw [List.length_map] at this; exact this
                clear hown1 hg1 hat1 hlt1 bX hg1' kA sA
                refine hK.out _ _ ?_ (fun hHeld => ?_)
                · exact k1
                clear hK K
                (try simp only [Act.put, List.setIfInBounds_toArray, List.set_cons_zero, List.set_cons_succ])
                refine wpAnyH_ready (rs := [16]) (by kernel_rfl) (by simp) ?_
                refine AllReadyH.cons rfl (fun K hK => ?_) ?_
                · skip
                  refine step_append_lies _ (by rfl) _ _ _ (by rfl) 0 3 i0 _ 1 8 Tryz.underlying36 HI.out.1 HI.out.2.1 HI.out.2.2.1 HI.out.2.2.2 rfl (by omega) (.slice lA lf.length lcap) lf.length (ints lf) (by rfl) (by exact row_alike HLA.out rfl) ⟨w0.heap.size + 1, 0, none⟩ 1 1 [.int .i64 (l.length : Nat)] (by rfl) (by rfl) (by exact World.news_of_block (cs := #[.int .i64 (l.length : Nat)]) (t := 3) (fr := (0, 0)) (uB.out)) (by simp [Value.oneCell']) (by omega) HM3.out HM4.out (Nat.zero_le _) (w1.heap.size) (by first | rfl | simp) ?_
                  intro g2 c2 w2 hown2 hg2 hat2 hlt2
                  have bY : Below w1.heap.size w1 w1 := Below.refl _ _
                  have hg2' : w1.grownBy w2 (Value.slice lA lf.length lcap).ownBlock := hg2
                  obtain ⟨τB, kB, sB⟩ := KA.out.midB bY hg2' hown2 (hat2.imp id (fun e => by (try simp); omega))
                  have q0 : w2.cell? ⟨p, 0, none⟩ = some (.slice cA cs.length ccap) := kB.blk.cell 0
                  have q1 : w2.cell? ⟨p, 1, none⟩ = some (.slice lA lf.length lcap) := kB.blk.cell 1
                  have f0 : w2.frozen? ⟨p, 0, none⟩ = false := kB.blk.free 0
                  obtain ⟨kC, sC⟩ := kB.setP 0 (.slice (some ⟨g1, 0, none⟩) (cs.length + 1) c1)
                  have q1' : (w2.setCell ⟨p, 0, none⟩ (.slice (some ⟨g1, 0, none⟩) (cs.length + 1) c1)).cell? ⟨p, 1, none⟩ = some (.slice lA lf.length lcap) := kC.blk.cell 1
                  have f1' : (w2.setCell ⟨p, 0, none⟩ (.slice (some ⟨g1, 0, none⟩) (cs.length + 1) c1)).frozen? ⟨p, 1, none⟩ = false := kC.blk.free 1
                  obtain ⟨kD, sD⟩ := kC.setP 1 (.slice (some ⟨g2, 0, none⟩) (lf.length + 1) c2)
                  rw [pcs_set] at kD
                  have HFIN := Lib.hid (FIN.out _ _ _ _ kD ((SA.out.trans sB).trans ((sC.mono (fun r h => .inl h)).trans (sD.mono (fun r h => .inl h)))))
                  clear hown2 hg2 hat2 hlt2 bY hg2' kB sB kC sC kD sD
                  refine hK.out _ _ ?_ (fun hHeld => ?_)
                  · exact q1
                  clear hK K
                  (try simp only [Act.put, List.setIfInBounds_toArray, List.set_cons_zero, List.set_cons_succ])
                  refine wpAnyH_take (i := 17) (v := ?v57) rfl (by kernel_rfl) (by kernel_rfl) (by kernel_rfl) (fun _ _ _ h => h) (Or.inl ⟨by rfl, ?hy57⟩) (by assumption) ?rest57
                  case hy57 => (intro w hSw; (try dsimp only at hSw); go_simp; try with_reducible rfl)
                  (try simp only [Act.put, List.setIfInBounds_toArray, List.set_cons_zero, List.set_cons_succ])
                  refine wpAnyH_take (i := 18) (v := ?v58) rfl (by kernel_rfl) (by kernel_rfl) (by kernel_rfl) (fun _ _ _ h => h) (Or.inl ⟨by rfl, ?hy58⟩) (by assumption) ?rest58
                  case hy58 => (intro w hSw; (try dsimp only at hSw); go_simp; try with_reducible rfl)
                  (try simp only [Act.put, List.setIfInBounds_toArray, List.set_cons_zero, List.set_cons_succ])
                  refine wpAnyH_ready (rs := [19]) (by kernel_rfl) (by simp) ?_
                  refine AllReadyH.cons rfl (fun K hK => ?_) ?_
                  · skip
                    go_simp
                    refine hK.out _ _ ?_ (fun hHeld => ?_)
                    · exact q1'
                    clear hK K
                    (try simp only [Act.put, List.setIfInBounds_toArray, List.set_cons_zero, List.set_cons_succ])
                    refine wpAnyH_take (i := 20) (v := ?v59) rfl (by kernel_rfl) (by kernel_rfl) (by kernel_rfl) (fun _ _ _ h => h) (Or.inl ⟨by rfl, ?hy59⟩) (by assumption) ?rest59
                    case hy59 => (intro w hSw; (try dsimp only at hSw); go_simp; try with_reducible rfl)
                    (try simp only [Act.put, List.setIfInBounds_toArray, List.set_cons_zero, List.set_cons_succ])
                    refine wpAnyH_take (i := 21) (v := ?v60) rfl (by kernel_rfl) (by kernel_rfl) (by kernel_rfl) (fun _ _ _ h => h) (Or.inl ⟨by rfl, ?hy60⟩) (by assumption) ?rest60
                    case hy60 => (intro w hSw; (try dsimp only at hSw); go_simp; try with_reducible rfl)
                    (try simp only [Act.put, List.setIfInBounds_toArray, List.set_cons_zero, List.set_cons_succ])
                    refine wpAnyH_done (by kernel_rfl) ?_ _
                    show Oper.wp _ _ _ _ _ _
                    simp only [List.getElem_toArray, List.getElem_cons_succ, List.getElem_cons_zero]
                    go_simp
                    go_wp2_with fail
                    go_end0
                    exact ⟨rfl, HFIN.out⟩
                  exact AllReadyH.nil
                exact AllReadyH.nil
              exact AllReadyH.nil
            exact AllReadyH.nil
          exact AllReadyH.nil
        refine AllReadyH.cons rfl (fun K hK => ?_) ?_
        · skip
          go_simp
          refine hK.out _ _ ?_ (fun hHeld => ?_)
          · exact kxB.2
          clear hK K
          (try simp only [Act.put, List.setIfInBounds_toArray, List.set_cons_zero, List.set_cons_succ])
          refine wpAnyH_ready (rs := [5, 7]) (by kernel_rfl) (by simp) ?_
          refine AllReadyH.cons rfl (fun K hK => ?_) ?_
          · skip
            go_simp
            refine hK.out _ _ ?_ (fun hHeld => ?_)
            · exact hHeld
            clear hK K
            (try simp only [Act.put, List.setIfInBounds_toArray, List.set_cons_zero, List.set_cons_succ])
            refine wpAnyH_ready (rs := [7]) (by kernel_rfl) (by simp) ?_
            refine AllReadyH.cons rfl (fun K hK => ?_) ?_
            · skip
              go_simp
              refine hK.out _ _ ?_ (fun hHeld => ?_)
              · exact kxBA.2
              clear hK K
              (try simp only [Act.put, List.setIfInBounds_toArray, List.set_cons_zero, List.set_cons_succ])
              refine wpAnyH_ready (rs := [8]) (by kernel_rfl) (by simp) ?_
              refine AllReadyH.cons rfl (fun K hK => ?_) ?_
              · skip
                refine step_append_lies _ (by rfl) _ _ _ (by rfl) 0 36 i1 _ 1 24 Tryz.underlying22 HJ.out.1 HJ.out.2.1 HJ.out.2.2.1 HJ.out.2.2.2 rfl (by omega) (.slice cA cs.length ccap) cs.length cvs (by rfl) (by exact row_alike ((HCV.out.alloc _).alloc _) rfl) ⟨w0.heap.size + 1, 0, none⟩ 1 1 [.slice A1 l.length cap1] (by rfl) (by rfl) (by exact World.news_of_block (cs := #[.slice A1 l.length cap1]) (t := 36) (fr := (0, 0)) (new_at_b (W := w0.alloc (.cells #[.int .i64 (l.length : Nat)] 3)) (by simp) rfl)) (by simp [Value.oneCell']) (by omega) HM1.out HM2.out (Nat.zero_le _) (w0.heap.size + 2) (by simp) ?_
                intro g1 c1 w1 hown1 hg1 hat1 hlt1
                have bX : Below w0.heap.size w0 ((w0.alloc (.cells #[.int .i64 (l.length : Nat)] 3)).alloc (.cells #[.slice A1 l.length cap1] 36)) := ((Below.refl _ _).alloc (by first | exact Nat.le_refl _ | (simp; done) | (simp; omega)) _).alloc (by first | exact Nat.le_refl _ | (simp; done) | (simp; omega)) _
                have hg1' : ((w0.alloc (.cells #[.int .i64 (l.length : Nat)] 3)).alloc (.cells #[.slice A1 l.length cap1] 36)).grownBy w1 (Value.slice cA cs.length ccap).ownBlock := hg1
                obtain ⟨τA, kA, sA⟩ := H3.out.midA HCL.out HCS.out HCR.out LS3.out bX hg1' hown1 (hat1.imp id (fun e => by simp; omega))
                have uB := Lib.hid (show w1.heap[w0.heap.size]? = some (.cells #[.int .i64 (l.length : Nat)] 3) from (hg1'.block _ (by first | (simp; done) | (simp; omega)) (fun e => by have := HCR.out.lt e.symm; omega)).trans (by exact new_under (W := w0) rfl rfl))
                have k1 : w1.cell? ⟨p, 1, none⟩ = some (.slice lA lf.length lcap) := kA.blk.cell 1
                have kb1 : (w1.alloc (.cells #[.int .i64 (l.length : Nat)] 3)).cell? ⟨p, 1, none⟩ = some (.slice lA lf.length lcap) := (((Below.refl _ _).alloc (Nat.le_refl _) _).cell (lt_of_cell k1)).trans k1
                have KA := Lib.hid kA
                have SA := Lib.hid sA
                have HLA : Hid (w1.ownsRow 0 3 1 (.slice lA lf.length lcap) lf.length (ints lf)) := by have := kA.lrow.1; rw [List.length_map] at this; exact this
                clear hown1 hg1 hat1 hlt1 bX hg1' kA sA
                refine hK.out _ _ ?_ (fun hHeld => ?_)
                · exact k1
                clear hK K
                (try simp only [Act.put, List.setIfInBounds_toArray, List.set_cons_zero, List.set_cons_succ])
                refine wpAnyH_ready (rs := [16]) (by kernel_rfl) (by simp) ?_
                refine AllReadyH.cons rfl (fun K hK => ?_) ?_
                · skip
                  refine step_append_lies _ (by rfl) _ _ _ (by rfl) 0 3 i0 _ 1 8 Tryz.underlying36 HI.out.1 HI.out.2.1 HI.out.2.2.1 HI.out.2.2.2 rfl (by omega) (.slice lA lf.length lcap) lf.length (ints lf) (by rfl) (by exact row_alike HLA.out rfl) ⟨w0.heap.size, 0, none⟩ 1 1 [.int .i64 (l.length : Nat)] (by rfl) (by rfl) (by exact World.news_of_block (cs := #[.int .i64 (l.length : Nat)]) (t := 3) (fr := (0, 0)) (uB.out)) (by simp [Value.oneCell']) (by omega) HM3.out HM4.out (Nat.zero_le _) (w1.heap.size) (by first | rfl | simp) ?_
                  intro g2 c2 w2 hown2 hg2 hat2 hlt2
                  have bY : Below w1.heap.size w1 w1 := Below.refl _ _
                  have hg2' : w1.grownBy w2 (Value.slice lA lf.length lcap).ownBlock := hg2
                  obtain ⟨τB, kB, sB⟩ := KA.out.midB bY hg2' hown2 (hat2.imp id (fun e => by (try simp); omega))
                  have q0 : w2.cell? ⟨p, 0, none⟩ = some (.slice cA cs.length ccap) := kB.blk.cell 0
                  have q1 : w2.cell? ⟨p, 1, none⟩ = some (.slice lA lf.length lcap) := kB.blk.cell 1
                  have f0 : w2.frozen? ⟨p, 0, none⟩ = false := kB.blk.free 0
                  obtain ⟨kC, sC⟩ := kB.setP 0 (.slice (some ⟨g1, 0, none⟩) (cs.length + 1) c1)
                  have q1' : (w2.setCell ⟨p, 0, none⟩ (.slice (some ⟨g1, 0, none⟩) (cs.length + 1) c1)).cell? ⟨p, 1, none⟩ = some (.slice lA lf.length lcap) := kC.blk.cell 1
                  have f1' : (w2.setCell ⟨p, 0, none⟩ (.slice (some ⟨g1, 0, none⟩) (cs.length + 1) c1)).frozen? ⟨p, 1, none⟩ = false := kC.blk.free 1
                  obtain ⟨kD, sD⟩ := kC.setP 1 (.slice (some ⟨g2, 0, none⟩) (lf.length + 1) c2)
                  rw [pcs_set] at kD
                  have HFIN := Lib.hid (FIN.out _ _ _ _ kD ((SA.out.trans sB).trans ((sC.mono (fun r h => .inl h)).trans (sD.mono (fun r h => .inl h)))))
                  clear hown2 hg2 hat2 hlt2 bY hg2' kB sB kC sC kD sD
                  refine hK.out _ _ ?_ (fun hHeld => ?_)
                  · exact q1
                  clear hK K
                  (try simp only [Act.put, List.setIfInBounds_toArray, List.set_cons_zero, List.set_cons_succ])
                  refine wpAnyH_take (i := 17) (v := ?v61) rfl (by kernel_rfl) (by kernel_rfl) (by kernel_rfl) (fun _ _ _ h => h) (Or.inl ⟨by rfl, ?hy61⟩) (by assumption) ?rest61
                  case hy61 => (intro w hSw; (try dsimp only at hSw); go_simp; try with_reducible rfl)
                  (try simp only [Act.put, List.setIfInBounds_toArray, List.set_cons_zero, List.set_cons_succ])
                  refine wpAnyH_take (i := 18) (v := ?v62) rfl (by kernel_rfl) (by kernel_rfl) (by kernel_rfl) (fun _ _ _ h => h) (Or.inl ⟨by rfl, ?hy62⟩) (by assumption) ?rest62
                  case hy62 => (intro w hSw; (try dsimp only at hSw); go_simp; try with_reducible rfl)
                  (try simp only [Act.put, List.setIfInBounds_toArray, List.set_cons_zero, List.set_cons_succ])
                  refine wpAnyH_ready (rs := [19]) (by kernel_rfl) (by simp) ?_
                  refine AllReadyH.cons rfl (fun K hK => ?_) ?_
                  · skip
                    go_simp
                    refine hK.out _ _ ?_ (fun hHeld => ?_)
                    · exact q1'
                    clear hK K
                    (try simp only [Act.put, List.setIfInBounds_toArray, List.set_cons_zero, List.set_cons_succ])
                    refine wpAnyH_take (i := 20) (v := ?v63) rfl (by kernel_rfl) (by kernel_rfl) (by kernel_rfl) (fun _ _ _ h => h) (Or.inl ⟨by rfl, ?hy63⟩) (by assumption) ?rest63
                    case hy63 => (intro w hSw; (try dsimp only at hSw); go_simp; try with_reducible rfl)
                    (try simp only [Act.put, List.setIfInBounds_toArray, List.set_cons_zero, List.set_cons_succ])
                    refine wpAnyH_take (i := 21) (v := ?v64) rfl (by kernel_rfl) (by kernel_rfl) (by kernel_rfl) (fun _ _ _ h => h) (Or.inl ⟨by rfl, ?hy64⟩) (by assumption) ?rest64
                    case hy64 => (intro w hSw; (try dsimp only at hSw); go_simp; try with_reducible rfl)
                    (try simp only [Act.put, List.setIfInBounds_toArray, List.set_cons_zero, List.set_cons_succ])
                    refine wpAnyH_done (by kernel_rfl) ?_ _
                    show Oper.wp _ _ _ _ _ _
                    simp only [List.getElem_toArray, List.getElem_cons_succ, List.getElem_cons_zero]
                    go_simp
                    go_wp2_with fail
                    go_end0
                    exact ⟨rfl, HFIN.out⟩
                  exact AllReadyH.nil
                exact AllReadyH.nil
              exact AllReadyH.nil
            exact AllReadyH.nil
          refine AllReadyH.cons rfl (fun K hK => ?_) ?_
          · skip
            go_simp
            refine hK.out _ _ ?_ (fun hHeld => ?_)
            · exact kxBA.2
            clear hK K
            (try simp only [Act.put, List.setIfInBounds_toArray, List.set_cons_zero, List.set_cons_succ])
            refine wpAnyH_ready (rs := [5]) (by kernel_rfl) (by simp) ?_
            refine AllReadyH.cons rfl (fun K hK => ?_) ?_
            · skip
              go_simp
              refine hK.out _ _ ?_ (fun hHeld => ?_)
              · exact hHeld
              clear hK K
              (try simp only [Act.put, List.setIfInBounds_toArray, List.set_cons_zero, List.set_cons_succ])
              refine wpAnyH_ready (rs := [8]) (by kernel_rfl) (by simp) ?_
              refine AllReadyH.cons rfl (fun K hK => ?_) ?_
              · skip
                refine step_append_lies _ (by rfl) _ _ _ (by rfl) 0 36 i1 _ 1 24 Tryz.underlying22 HJ.out.1 HJ.out.2.1 HJ.out.2.2.1 HJ.out.2.2.2 rfl (by omega) (.slice cA cs.length ccap) cs.length cvs (by rfl) (by exact row_alike ((HCV.out.alloc _).alloc _) rfl) ⟨w0.heap.size + 1, 0, none⟩ 1 1 [.slice A1 l.length cap1] (by rfl) (by rfl) (by exact World.news_of_block (cs := #[.slice A1 l.length cap1]) (t := 36) (fr := (0, 0)) (new_at_b (W := w0.alloc (.cells #[.int .i64 (l.length : Nat)] 3)) (by simp) rfl)) (by simp [Value.oneCell']) (by omega) HM1.out HM2.out (Nat.zero_le _) (w0.heap.size + 2) (by simp) ?_
                intro g1 c1 w1 hown1 hg1 hat1 hlt1
                have bX : Below w0.heap.size w0 ((w0.alloc (.cells #[.int .i64 (l.length : Nat)] 3)).alloc (.cells #[.slice A1 l.length cap1] 36)) := ((Below.refl _ _).alloc (by first | exact Nat.le_refl _ | (simp; done) | (simp; omega)) _).alloc (by first | exact Nat.le_refl _ | (simp; done) | (simp; omega)) _
                have hg1' : ((w0.alloc (.cells #[.int .i64 (l.length : Nat)] 3)).alloc (.cells #[.slice A1 l.length cap1] 36)).grownBy w1 (Value.slice cA cs.length ccap).ownBlock := hg1
                obtain ⟨τA, kA, sA⟩ := H3.out.midA HCL.out HCS.out HCR.out LS3.out bX hg1' hown1 (hat1.imp id (fun e => by simp; omega))
                have uB := Lib.hid (show w1.heap[w0.heap.size]? = some (.cells #[.int .i64 (l.length : Nat)] 3) from (hg1'.block _ (by first | (simp; done) | (simp; omega)) (fun e => by have := HCR.out.lt e.symm; omega)).trans (by exact new_under (W := w0) rfl rfl))
                have k1 : w1.cell? ⟨p, 1, none⟩ = some (.slice lA lf.length lcap) := kA.blk.cell 1
                have kb1 : (w1.alloc (.cells #[.int .i64 (l.length : Nat)] 3)).cell? ⟨p, 1, none⟩ = some (.slice lA lf.length lcap) := (((Below.refl _ _).alloc (Nat.le_refl _) _).cell (lt_of_cell k1)).trans k1
                have KA := Lib.hid kA
                have SA := Lib.hid sA
                have HLA : Hid (w1.ownsRow 0 3 1 (.slice lA lf.length lcap) lf.length (ints lf)) := by have := kA.lrow.1; rw [List.length_map] at this; exact this
                clear hown1 hg1 hat1 hlt1 bX hg1' kA sA
                refine hK.out _ _ ?_ (fun hHeld => ?_)
                · exact k1
                clear hK K
                (try simp only [Act.put, List.setIfInBounds_toArray, List.set_cons_zero, List.set_cons_succ])
                refine wpAnyH_ready (rs := [16]) (by kernel_rfl) (by simp) ?_
                refine AllReadyH.cons rfl (fun K hK => ?_) ?_
                · skip
                  refine step_append_lies _ (by rfl) _ _ _ (by rfl) 0 3 i0 _ 1 8 Tryz.underlying36 HI.out.1 HI.out.2.1 HI.out.2.2.1 HI.out.2.2.2 rfl (by omega) (.slice lA lf.length lcap) lf.length (ints lf) (by rfl) (by exact row_alike HLA.out rfl) ⟨w0.heap.size, 0, none⟩ 1 1 [.int .i64 (l.length : Nat)] (by rfl) (by rfl) (by exact World.news_of_block (cs := #[.int .i64 (l.length : Nat)]) (t := 3) (fr := (0, 0)) (uB.out)) (by simp [Value.oneCell']) (by omega) HM3.out HM4.out (Nat.zero_le _) (w1.heap.size) (by first | rfl | simp) ?_
                  intro g2 c2 w2 hown2 hg2 hat2 hlt2
                  have bY : Below w1.heap.size w1 w1 := Below.refl _ _
                  have hg2' : w1.grownBy w2 (Value.slice lA lf.length lcap).ownBlock := hg2
                  obtain ⟨τB, kB, sB⟩ := KA.out.midB bY hg2' hown2 (hat2.imp id (fun e => by (try simp); omega))
                  have q0 : w2.cell? ⟨p, 0, none⟩ = some (.slice cA cs.length ccap) := kB.blk.cell 0
                  have q1 : w2.cell? ⟨p, 1, none⟩ = some (.slice lA lf.length lcap) := kB.blk.cell 1
                  have f0 : w2.frozen? ⟨p, 0, none⟩ = false := kB.blk.free 0
                  obtain ⟨kC, sC⟩ := kB.setP 0 (.slice (some ⟨g1, 0, none⟩) (cs.length + 1) c1)
                  have q1' : (w2.setCell ⟨p, 0, none⟩ (.slice (some ⟨g1, 0, none⟩) (cs.length + 1) c1)).cell? ⟨p, 1, none⟩ = some (.slice lA lf.length lcap) := kC.blk.cell 1
                  have f1' : (w2.setCell ⟨p, 0, none⟩ (.slice (some ⟨g1, 0, none⟩) (cs.length + 1) c1)).frozen? ⟨p, 1, none⟩ = false := kC.blk.free 1
                  obtain ⟨kD, sD⟩ := kC.setP 1 (.slice (some ⟨g2, 0, none⟩) (lf.length + 1) c2)
                  rw [pcs_set] at kD
                  have HFIN := Lib.hid (FIN.out _ _ _ _ kD ((SA.out.trans sB).trans ((sC.mono (fun r h => .inl h)).trans (sD.mono (fun r h => .inl h)))))
                  clear hown2 hg2 hat2 hlt2 bY hg2' kB sB kC sC kD sD
                  refine hK.out _ _ ?_ (fun hHeld => ?_)
                  · exact q1
                  clear hK K
                  (try simp only [Act.put, List.setIfInBounds_toArray, List.set_cons_zero, List.set_cons_succ])
                  refine wpAnyH_take (i := 17) (v := ?v65) rfl (by kernel_rfl) (by kernel_rfl) (by kernel_rfl) (fun _ _ _ h => h) (Or.inl ⟨by rfl, ?hy65⟩) (by assumption) ?rest65
                  case hy65 => (intro w hSw; (try dsimp only at hSw); go_simp; try with_reducible rfl)
                  (try simp only [Act.put, List.setIfInBounds_toArray, List.set_cons_zero, List.set_cons_succ])
                  refine wpAnyH_take (i := 18) (v := ?v66) rfl (by kernel_rfl) (by kernel_rfl) (by kernel_rfl) (fun _ _ _ h => h) (Or.inl ⟨by rfl, ?hy66⟩) (by assumption) ?rest66
                  case hy66 => (intro w hSw; (try dsimp only at hSw); go_simp; try with_reducible rfl)
                  (try simp only [Act.put, List.setIfInBounds_toArray, List.set_cons_zero, List.set_cons_succ])
                  refine wpAnyH_ready (rs := [19]) (by kernel_rfl) (by simp) ?_
                  refine AllReadyH.cons rfl (fun K hK => ?_) ?_
                  · skip
                    go_simp
                    refine hK.out _ _ ?_ (fun hHeld => ?_)
                    · exact q1'
                    clear hK K
                    (try simp only [Act.put, List.setIfInBounds_toArray, List.set_cons_zero, List.set_cons_succ])
                    refine wpAnyH_take (i := 20) (v := ?v67) rfl (by kernel_rfl) (by kernel_rfl) (by kernel_rfl) (fun _ _ _ h => h) (Or.inl ⟨by rfl, ?hy67⟩) (by assumption) ?rest67
                    case hy67 => (intro w hSw; (try dsimp only at hSw); go_simp; try with_reducible rfl)
                    (try simp only [Act.put, List.setIfInBounds_toArray, List.set_cons_zero, List.set_cons_succ])
                    refine wpAnyH_take (i := 21) (v := ?v68) rfl (by kernel_rfl) (by kernel_rfl) (by kernel_rfl) (fun _ _ _ h => h) (Or.inl ⟨by rfl, ?hy68⟩) (by assumption) ?rest68
                    case hy68 => (intro w hSw; (try dsimp only at hSw); go_simp; try with_reducible rfl)
                    (try simp only [Act.put, List.setIfInBounds_toArray, List.set_cons_zero, List.set_cons_succ])
                    refine wpAnyH_done (by kernel_rfl) ?_ _
                    show Oper.wp _ _ _ _ _ _
                    simp only [List.getElem_toArray, List.getElem_cons_succ, List.getElem_cons_zero]
                    go_simp
                    go_wp2_with fail
                    go_end0
                    exact ⟨rfl, HFIN.out⟩
                  exact AllReadyH.nil
                exact AllReadyH.nil
              exact AllReadyH.nil
            exact AllReadyH.nil
          exact AllReadyH.nil
        exact AllReadyH.nil
end
end Go.Proofs.YtpmdnbdmocdngaaGreat
