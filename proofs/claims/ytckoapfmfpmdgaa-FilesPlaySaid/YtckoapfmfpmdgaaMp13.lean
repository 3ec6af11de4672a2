/-
  Parts of the proof, joined: FileI, FileJ.
-/
import Derived.Test.YtckoapfmfpmdgaaMp12

namespace Go.Proofs.Ytckoapfmfpmdgaa
open Go.ChangeShapes Go.WideShapes Go.ChangeAt Go.RowKit Go.Joins
set_option linter.unusedVariables false
set_option linter.unusedSimpArgs false

section
variable {bz : Nat} {tau : Nat → Nat} {G : Gd} {w : World} {h : Nat} {s : Fs}
theorem FR.opens (H : FR bz tau G w h s) {w0 w2 : World} {n g1 cap : Nat} {x : Nat × Nat} (hx : x.1 < s.d.length ∧ x.2 ≤ 263) {o2 : Obj} (K : Gw (w.setCell ⟨h, 3 + n, none⟩ (.int .i64 (s.o.length : Int))) w0)
    (gr : ((w0.alloc (.cells (opC x) 136)).alloc o2).grownBy w2 G.ov.ownBlock) (at_ : G.ov.ownBlock = some g1 ∨ g1 = ((w0.alloc (.cells (opC x) 136)).alloc o2).heap.size)
    (own : w2.ownsRow bz 134 1 (.slice (some ⟨g1, 0, none⟩) (s.o.length + 1) cap) (s.o.length + 1) (G.ps.map ptV ++ [ptV w0.heap.size])) :
    FTo bz tau w h { s with fd := s.fd.set n s.o.length, o := s.o ++ [x] } (w2.setCell ⟨h, 2, none⟩ (.slice (some ⟨g1, 0, none⟩) (s.o.length + 1) cap)) := by
  have hl := H.hd.lt
  have zs : (w.setCell ⟨h, 3 + n, none⟩ (.int .i64 (s.o.length : Int))).heap.size = w.heap.size := by simp
  have z0 := K.size
  rw [zs] at z0
  have z1 : ((w0.alloc (.cells (opC x) 136)).alloc o2).heap.size = w0.heap.size + 1 + 1 := by rw [size_alloc, size_alloc]
  have z2 := gr.size
  rw [z1] at z2 at_
  have nh : G.ov.ownBlock ≠ some h := fun e => by have := H.tov h e; rw [H.th] at this; cases this
  have ol : ∀ b, G.ov.ownBlock = some b → b < w.heap.size := fun b hb => (H.lt b (by rw [H.tov b hb]; decide)).2
  have ng : g1 ≠ h := fun e => by
    rcases at_ with h1 | h1
    · exact nh (by rw [h1, e])
    · omega
  have ngo : g1 ≠ w0.heap.size := fun e => by
    rcases at_ with h1 | h1
    · have := ol g1 h1; omega
    · omega
  have kb : ∀ c, c < w.heap.size → c ≠ h → G.ov.ownBlock ≠ some c → w2.heap[c]? = w.heap[c]? := fun c hc hch hco => by
    rw [gr.block c (by rw [z1]; omega) (fun e => hco e.symm), Below.heap_alloc _ _ c (by rw [size_alloc]; omega), Below.heap_alloc _ _ c (by omega), K.block c (by rw [zs]; exact hc)]
    exact set_other (p := ⟨h, 3 + n, none⟩) hch
  have hh1 := (H.hd.put (3 + n) (.int .i64 (s.o.length : Int)))
  rw [hC_setfd] at hh1
  have hh2 : Has w2 h 118 (hC G.g G.dv G.ov (s.fd.set n s.o.length)) := by
    refine hh1.same ?_
    rw [gr.block h (by rw [z1]; omega) (fun e => nh e.symm), Below.heap_alloc _ _ h (by rw [size_alloc]; omega), Below.heap_alloc _ _ h (by omega), K.block h (by rw [zs]; exact hl)]
  have hh3 := hh2.put 2 (.slice (some ⟨g1, 0, none⟩) (s.o.length + 1) cap)
  rw [hC_setov] at hh3
  have hob : Has w2 w0.heap.size 136 (opC x) := by
    refine (Has.new w0 136 (opC x)).same ?_
    rw [gr.block w0.heap.size (by rw [z1]; omega) (fun e => by have := ol _ e.symm; omega), Below.heap_alloc _ _ _ (by rw [size_alloc]; omega)]
  have no : w0.heap.size ≠ h := by omega
  refine H.addo (ob := w0.heap.size) hx (gr.os.trans K.os) (gr.output.trans K.output) (by simp; omega) hh3 (own_same own (fun b hb => set_other (p := ⟨h, 2, none⟩) (fun e => ?_))) (hob.same (set_other (p := ⟨h, 2, none⟩) no)) z0 (fun e => ngo (by simpa [Value.ownBlock] using e)) (fun b hb => ?_) (fun c hc hch hco => (set_other (p := ⟨h, 2, none⟩) hch).trans (kb c hc hch hco))
  · have e1 : g1 = b := by simpa [Value.ownBlock] using hb
    exact ng (e1.trans e)
  · have e1 : g1 = b := by simpa [Value.ownBlock] using hb
    rcases at_ with h1 | h1
    · exact .inl (by rw [h1, e1])
    · exact .inr (by omega)
end
end Go.Proofs.Ytckoapfmfpmdgaa

namespace Go.Proofs.Ytckoapfmfpmdgaa
open Go.ChangeShapes Go.WideShapes Go.ChangeAt Go.RowKit Go.Joins
set_option linter.unusedVariables false
set_option linter.unusedSimpArgs false

section
variable {bz : Nat} {tau : Nat → Nat} {G : Gd} {w : World} {h : Nat} {s : Fs}
theorem make0 {s : St} {p : List UInt8} {d : Bool} (h : (makeT s p d).1.2 = 0) : (makeT s p d).1.1 = s.nx := by
  unfold makeT at h ⊢
  split at h
  · rename_i h1
    rw [if_pos h1]
    split at h
    · rename_i h2
      rw [if_pos h2]
      cases hk : look s.l p with
      | some i => rw [hk] at h; simp at h
      | none =>
        rw [hk] at h
        simp only at h ⊢
        split at h
        · simp at h
        · rename_i h3
          rw [if_neg h3]
          split at h
          · simp at h
          · rename_i h4
            rw [if_neg h4]
    · rename_i h2
      exact absurd h h2
  · simp at h
set_option maxRecDepth 100000 in
set_option maxHeartbeats 8000000 in
theorem ropen_any (H : FR bz tau G w h s) (ok : FOk s) (p : ByteArray) (hp : p.size ≤ 140737488351232) (hnx : s.t.nx ≤ 1000000) (hol : s.o.length ≤ 1000000) :
    Calls Try.prog 59 #[.pointer (some ⟨h, 0, none⟩), .string p] w fun e w' => e = .returned (.int .u16 (openF s p.data.toList).1) ∧ FTo bz tau w h (openF s p.data.toList).2 w' := by
  have hn : ∀ b w, (Op.unary .not (.bool b)).run Try.prog w = .ok (.bool (!b)) w := fun _ _ => rfl
  have HH := Lib.hid H
  have NM := fun w => rname_any p w
  have FI := fun w' (K : Gw w w') => rfind_any (H.on K).tr p hp
  have AB := fun w' (K : Gw w w') => above_any (H.on K).tr p hp
  have FR_ := fun w' (K : Gw w w') => free_any (H.on K)
  have HC0 : Hid (w.cell? ⟨h, 0, none⟩ = some (.pointer (some ⟨G.g, 0, none⟩))) := H.hd.cell 0
  have c0 := HC0.out
  have GG : Hid (Gw w w) := Gw.refl w
  unfold openF
  obtain ⟨r, hr⟩ : ∃ r, r = findT s.t.l p.data.toList := ⟨_, rfl⟩
  obtain ⟨av, hav⟩ : ∃ av, av = abv s.t.l p.data.toList := ⟨_, rfl⟩
  obtain ⟨fr, hfr⟩ : ∃ fr, fr = freeI s.fd := ⟨_, rfl⟩
  have HRR := Lib.hid hr
  have HFR := Lib.hid hfr
  rw [← hr] at FI ⊢
  rw [← hav] at AB ⊢
  rw [← hfr] at FR_ ⊢
  obtain ⟨r1, r2, r3⟩ := r
  simp only [fV] at FI
  simp only
  cases hb : nameB p.data.toList with
  | false =>
    rw [hb] at NM
    rw [if_neg (by decide)]
    clear H hr hav hfr hb
    go_enter Try.func59, Try.ntmps59
    go_wp2_with (first
      | (go_at_call 44; with_reducible refine (NM _).mono ?_; rintro e wx ⟨rfl, GX⟩; have GG := Lib.hid (GG.out.trans GX); have c0 := GG.out.cell HC0.out)
      | (go_at_call 47; with_reducible refine (FI _ GG.out).mono ?_; rintro e wx ⟨rfl, GX⟩; have GG := Lib.hid (GG.out.trans GX); have c0 := GG.out.cell HC0.out)
      | (go_at_call 80; with_reducible refine (AB _ GG.out).mono ?_; rintro e wx ⟨rfl, GX⟩; have GG := Lib.hid (GG.out.trans GX); have c0 := GG.out.cell HC0.out)
      | (go_at_call 88; with_reducible refine (FR_ _ GG.out).mono ?_; rintro e wx ⟨rfl, rfl⟩))
    go_ret
    exact ⟨rfl, FTo.of_gw HH.out GG.out⟩
  | true =>
    rw [hb] at NM
    rw [if_pos rfl]
    by_cases h1 : r3 = 0 ∧ r2 = true
    · rw [if_pos h1]
      obtain ⟨rfl, rfl⟩ := h1
      clear H hr hav hfr hb
      go_enter Try.func59, Try.ntmps59
      go_wp2_with (first
        | (go_at_call 44; with_reducible refine (NM _).mono ?_; rintro e wx ⟨rfl, GX⟩; have GG := Lib.hid (GG.out.trans GX); have c0 := GG.out.cell HC0.out)
        | (go_at_call 47; with_reducible refine (FI _ GG.out).mono ?_; rintro e wx ⟨rfl, GX⟩; have GG := Lib.hid (GG.out.trans GX); have c0 := GG.out.cell HC0.out)
        | (go_at_call 80; with_reducible refine (AB _ GG.out).mono ?_; rintro e wx ⟨rfl, GX⟩; have GG := Lib.hid (GG.out.trans GX); have c0 := GG.out.cell HC0.out)
        | (go_at_call 88; with_reducible refine (FR_ _ GG.out).mono ?_; rintro e wx ⟨rfl, rfl⟩))
      go_ret
      exact ⟨rfl, FTo.of_gw HH.out GG.out⟩
    rw [if_neg h1]
    have hg : ((r3 == 0) = true ∧ r2 = false) ∨ (r3 == 0) = false := by
      by_cases e : r3 = 0
      · left; refine ⟨by simp [e], ?_⟩
        cases r2 with
        | false => rfl
        | true => exact absurd ⟨e, rfl⟩ h1
      · right; exact beq_false_of_ne e
    by_cases h2 : av = 0
    case neg =>
      rw [if_pos h2]
      have e2 : (av == 0) = false := beq_false_of_ne h2
      clear H hr hav hfr hb h1
      rcases hg with ⟨g1, g2⟩ | g1
      · subst g2
        go_enter Try.func59, Try.ntmps59
        go_wp2_with (first
          | (go_at_call 44; with_reducible refine (NM _).mono ?_; rintro e wx ⟨rfl, GX⟩; have GG := Lib.hid (GG.out.trans GX); have c0 := GG.out.cell HC0.out)
          | (go_at_call 47; with_reducible refine (FI _ GG.out).mono ?_; rintro e wx ⟨rfl, GX⟩; have GG := Lib.hid (GG.out.trans GX); have c0 := GG.out.cell HC0.out)
          | (go_at_call 80; with_reducible refine (AB _ GG.out).mono ?_; rintro e wx ⟨rfl, GX⟩; have GG := Lib.hid (GG.out.trans GX); have c0 := GG.out.cell HC0.out)
          | (go_at_call 88; with_reducible refine (FR_ _ GG.out).mono ?_; rintro e wx ⟨rfl, rfl⟩))
        go_ret
        exact ⟨rfl, FTo.of_gw HH.out GG.out⟩
      · go_enter Try.func59, Try.ntmps59
        go_wp2_with (first
          | (go_at_call 44; with_reducible refine (NM _).mono ?_; rintro e wx ⟨rfl, GX⟩; have GG := Lib.hid (GG.out.trans GX); have c0 := GG.out.cell HC0.out)
          | (go_at_call 47; with_reducible refine (FI _ GG.out).mono ?_; rintro e wx ⟨rfl, GX⟩; have GG := Lib.hid (GG.out.trans GX); have c0 := GG.out.cell HC0.out)
          | (go_at_call 80; with_reducible refine (AB _ GG.out).mono ?_; rintro e wx ⟨rfl, GX⟩; have GG := Lib.hid (GG.out.trans GX); have c0 := GG.out.cell HC0.out)
          | (go_at_call 88; with_reducible refine (FR_ _ GG.out).mono ?_; rintro e wx ⟨rfl, rfl⟩))
        go_ret
        exact ⟨rfl, FTo.of_gw HH.out GG.out⟩
    subst h2
    rw [if_neg (by simp)]
    by_cases h3 : fr < 0
    · rw [if_pos h3]
      have e3 : decide (fr < 0) = true := decide_eq_true h3
      clear H hr hav hfr hb h1
      rcases hg with ⟨g1, g2⟩ | g1
      · subst g2
        go_enter Try.func59, Try.ntmps59
        go_wp2_with (first
          | (go_at_call 44; with_reducible refine (NM _).mono ?_; rintro e wx ⟨rfl, GX⟩; have GG := Lib.hid (GG.out.trans GX); have c0 := GG.out.cell HC0.out)
          | (go_at_call 47; with_reducible refine (FI _ GG.out).mono ?_; rintro e wx ⟨rfl, GX⟩; have GG := Lib.hid (GG.out.trans GX); have c0 := GG.out.cell HC0.out)
          | (go_at_call 80; with_reducible refine (AB _ GG.out).mono ?_; rintro e wx ⟨rfl, GX⟩; have GG := Lib.hid (GG.out.trans GX); have c0 := GG.out.cell HC0.out)
          | (go_at_call 88; with_reducible refine (FR_ _ GG.out).mono ?_; rintro e wx ⟨rfl, rfl⟩))
        go_ret
        exact ⟨rfl, FTo.of_gw HH.out GG.out⟩
      · go_enter Try.func59, Try.ntmps59
        go_wp2_with (first
          | (go_at_call 44; with_reducible refine (NM _).mono ?_; rintro e wx ⟨rfl, GX⟩; have GG := Lib.hid (GG.out.trans GX); have c0 := GG.out.cell HC0.out)
          | (go_at_call 47; with_reducible refine (FI _ GG.out).mono ?_; rintro e wx ⟨rfl, GX⟩; have GG := Lib.hid (GG.out.trans GX); have c0 := GG.out.cell HC0.out)
          | (go_at_call 80; with_reducible refine (AB _ GG.out).mono ?_; rintro e wx ⟨rfl, GX⟩; have GG := Lib.hid (GG.out.trans GX); have c0 := GG.out.cell HC0.out)
          | (go_at_call 88; with_reducible refine (FR_ _ GG.out).mono ?_; rintro e wx ⟨rfl, rfl⟩))
        go_ret
        exact ⟨rfl, FTo.of_gw HH.out GG.out⟩
    rw [if_neg h3]
    have e3 : decide (fr < 0) = false := decide_eq_false h3
    obtain ⟨n, hn1, hn2⟩ := freeI_lt (fd := s.fd) (by rw [← hfr]; exact h3)
    obtain rfl : fr = n := hfr.trans hn1
    rw [H.ok.fl] at hn2
    obtain ⟨kf, hfd⟩ := H.fdx hn2
    obtain ⟨M, hM⟩ : ∃ M, M = s.o.length := ⟨_, rfl⟩
    have HM := Lib.hid hM
    rw [Int.toNat_natCast]
    by_cases h4 : r3 = 0
    · rw [if_pos h4]
      subst h4
      obtain ⟨g1, g2⟩ : (((0 : Int) == 0) = true) ∧ r2 = false := by
        rcases hg with hg | hg
        · exact hg
        · cases hg
      subst g2
      obtain ⟨_, _, it, hit, het⟩ := find0 (l := s.t.l) (p := p.data.toList) (by rw [← hr])
      rw [← hr] at het
      have hid := ok.ids it (look_mem hit)
      have hr1 : r1 = it.n := by injection het
      obtain ⟨f, hf⟩ : ∃ f : Nat, r1 = f := ⟨r1.toNat, by omega⟩
      have hfl : f < s.d.length := by omega
      clear hr1
      subst hf
      rw [Int.toNat_natCast, ← hM]
      clear hr hav hfr hb h1 hg hit het hid hn1 H h3 hM
      go_enter Try.func59, Try.ntmps59
      go_upto_region 19 with (first
        | (go_at_call 44; with_reducible refine (NM _).mono ?_; rintro e wx ⟨rfl, GX⟩; have GG := Lib.hid (GG.out.trans GX); have c0 := GG.out.cell HC0.out)
        | (go_at_call 47; with_reducible refine (FI _ GG.out).mono ?_; rintro e wx ⟨rfl, GX⟩; have GG := Lib.hid (GG.out.trans GX); have c0 := GG.out.cell HC0.out)
        | (go_at_call 80; with_reducible refine (AB _ GG.out).mono ?_; rintro e wx ⟨rfl, GX⟩; have GG := Lib.hid (GG.out.trans GX); have c0 := GG.out.cell HC0.out)
        | (go_at_call 88; with_reducible refine (FR_ _ GG.out).mono ?_; rintro e wx ⟨rfl, rfl⟩))
      have HZ := Lib.hid (HH.out.on GG.out)
      obtain ⟨Ao, co, hov0⟩ := own_form1 HZ.out.or_
      have hov : G.ov = .slice Ao s.o.length co := hov0
      clear hov0
      have c2 : wx.drew.cell? ⟨h, 2, none⟩ = some (.slice Ao M co) := by rw [HM.out, ← hov]; exact HZ.out.hd.cell 2
      obtain ⟨c3, f3⟩ := HZ.out.fdc hfd
      have c3' : wx.drew.cell? ⟨h, 3 + n, none⟩ = some (.int .i64 kf) := c3
      have f3' : wx.drew.frozen? ⟨h, 3 + n, none⟩ = false := f3
      go_upto_region 19 with fail
      go_region
      have hd2 := (HZ.out.hd.put (3 + n) (.int .i64 (M : Int)))
      rw [hC_setfd] at hd2
      have HD2 := Lib.hid hd2
      obtain ⟨w0, hw0⟩ : ∃ w0, w0 = (wx.setCell ⟨h, 3 + n, none⟩ (.int .i64 (M : Int))).drew := ⟨_, rfl⟩
      have KW : Hid (Gw (wx.setCell ⟨h, 3 + n, none⟩ (.int .i64 (M : Int))) w0) := by rw [hw0]; exact (Gw.refl _).drew
      have k2 : w0.cell? ⟨h, 2, none⟩ = some (.slice Ao M co) := by
        rw [hw0, HM.out, ← hov]
        rw [HM.out] at hd2
        exact hd2.cell 2
      rw [← hw0]
      have HOV := Lib.hid hov
      have OW : Hid (((w0.alloc (.cells #[.int .i64 (f : Int), .int .i64 0] 136)).alloc (.cells #[.pointer (some ⟨w0.heap.size, 0, none⟩)] 134)).ownsRow bz 134 1 (.slice Ao M co) M (G.ps.map ptV)) := by
        show World.ownsRow _ _ _ _ _ _ _
        rw [HM.out, ← hov]
        refine own_same HZ.out.or_ (fun b hb => ?_)
        have hbl := (HZ.out.lt b (by rw [HZ.out.tov b hb]; decide)).2
        have zs : (wx.setCell ⟨h, 3 + n, none⟩ (.int .i64 (M : Int))).heap.size = wx.heap.size := by simp
        have z0 := KW.out.size
        rw [zs] at z0
        rw [Below.heap_alloc _ _ b (by rw [size_alloc]; omega), Below.heap_alloc _ _ b (by omega), KW.out.block b (by rw [zs]; exact hbl)]
        exact set_other (p := ⟨h, 3 + n, none⟩) (fun e => by have e' : b = h := e; have h1 := HZ.out.tov b hb; rw [e', HZ.out.th] at h1; cases h1)
      have HNW : Hid (((w0.alloc (.cells #[.int .i64 (f : Int), .int .i64 0] 136)).alloc (.cells #[.pointer (some ⟨w0.heap.size, 0, none⟩)] 134)).heap[w0.heap.size + 1]? = some (.cells #[.pointer (some ⟨w0.heap.size, 0, none⟩)] 134)) := by
        have := heap_alloc_new (w0.alloc (.cells #[.int .i64 (f : Int), .int .i64 0] 136)) (.cells #[.pointer (some ⟨w0.heap.size, 0, none⟩)] 134)
        rw [size_alloc] at this
        exact this
      have HBZ : Hid (bz ≤ ((w0.alloc (.cells #[.int .i64 (f : Int), .int .i64 0] 136)).alloc (.cells #[.pointer (some ⟨w0.heap.size, 0, none⟩)] 134)).heap.size) := by
        have z0 := KW.out.size
        have zs : (wx.setCell ⟨h, 3 + n, none⟩ (.int .i64 (M : Int))).heap.size = wx.heap.size := by simp
        rw [zs] at z0
        show _ ≤ _
        rw [size_alloc, size_alloc]
        have := HZ.out.hz
        omega
      have HLT : Hid (h < ((w0.alloc (.cells #[.int .i64 (f : Int), .int .i64 0] 136)).alloc (.cells #[.pointer (some ⟨w0.heap.size, 0, none⟩)] 134)).heap.size ∧ h < w0.heap.size) := by
        have h1 := lt_cell k2
        show _ ∧ _
        rw [size_alloc, size_alloc]
        exact ⟨by omega, h1⟩
      have k2f : w0.frozen? ⟨h, 2, none⟩ = false := (KW.out.frz (HD2.out.cell 2)).trans (HD2.out.free 2)
      obtain ⟨i0, hi1, hi2, hi3, hi4⟩ := info_op
      have HI := Lib.hid (And.intro hi1 (And.intro hi2 (And.intro hi3 hi4)))
      have NOH : Hid (G.ov.ownBlock ≠ some h) := fun e => by have := HZ.out.tov h e; rw [HZ.out.th] at this; cases this
      have hm8 : Hid (maxLen = 9223372036854775807) := rfl
      have HM1 : Hid (M ≤ 1000000) := by show _ ≤ _; rw [HM.out]; exact hol
      clear hw0 hov hd2 c2 c3 f3 c3' f3' hi1 hi2 hi3 hi4
      go_wp2_with (at_builtin; refine wpList_append_lies _ rfl _ _ _ rfl bz 134 i0 _ 1 8 Try.underlying115 HI.out.1 HI.out.2.1 HI.out.2.2.1 HI.out.2.2.2 rfl (by omega) (.slice Ao M co) M (G.ps.map ptV) rfl OW.out ⟨w0.heap.size + 1, 0, none⟩ 1 1 [.pointer (some ⟨w0.heap.size, 0, none⟩)] rfl rfl (World.news_of_block HNW.out) (by simp [Value.oneCell']) (by omega) (by have := hm8.out; have := HM1.out; omega) (by have := HM1.out; omega) HBZ.out _ rfl ?_; intro g1 c1 wp own1 gr1 at1 hlt1; have hnb : some h ≠ Value.ownBlock (.slice Ao M co) := (by rw [HM.out, ← HOV.out]; exact fun e => NOH.out e.symm); have kz := gr1.block h HLT.out.1 hnb; have k4 : wp.cell? ⟨h, 2, none⟩ = some (.slice Ao M co) := ((World.cell?_of_block (a := ⟨h, 2, none⟩) kz).trans (((Gw.alloc w0 _).trans (Gw.alloc _ _)).cell k2)); have k4f : wp.frozen? ⟨h, 2, none⟩ = false := ((World.frozen?_of_block (a := ⟨h, 2, none⟩) kz).trans ((((Gw.alloc w0 _).trans (Gw.alloc _ _)).frz k2).trans k2f)))
      go_ret
      have hM := HM.out
      subst hM
      have gr2 := gr1
      have at2 := at1
      have own2 := own1
      rw [← HOV.out] at gr2 at2
      exact ⟨by simp, FTo.gw GG.out (HZ.out.opens (x := (f, 0)) ⟨hfl, Nat.zero_le _⟩ KW.out gr2 at2 own2)⟩
    · rw [if_neg h4]
      have e4 : (r3 == 0) = false := beq_false_of_ne h4
      have hnx0 := ok.nx
      have MK := fun w' (K : Gw w w') => rmake_any (show Hid _ from (HH.out.on K).tr) p hp false hnx0 (by omega)
      obtain ⟨m, hm⟩ : ∃ m, m = makeT s.t p.data.toList false := ⟨_, rfl⟩
      have HMM := Lib.hid hm
      rw [← hm] at MK ⊢
      obtain ⟨⟨m1, m2⟩, t'⟩ := m
      simp only [mV] at MK
      simp only
      by_cases h5 : m2 = 0
      case neg =>
        rw [if_pos h5]
        have e5 : (m2 == 0) = false := beq_false_of_ne h5
        clear H hr hav hfr hb h1 hg h3 h4 h5 hm hM hn1
        go_enter Try.func59, Try.ntmps59
        go_wp2_with (first
          | (go_at_call 44; with_reducible refine (NM _).mono ?_; rintro e wx ⟨rfl, GX⟩; have GG := Lib.hid (GG.out.trans GX); have c0 := GG.out.cell HC0.out)
          | (go_at_call 47; with_reducible refine (FI _ GG.out).mono ?_; rintro e wx ⟨rfl, GX⟩; have GG := Lib.hid (GG.out.trans GX); have c0 := GG.out.cell HC0.out)
          | (go_at_call 80; with_reducible refine (AB _ GG.out).mono ?_; rintro e wx ⟨rfl, GX⟩; have GG := Lib.hid (GG.out.trans GX); have c0 := GG.out.cell HC0.out)
          | (go_at_call 88; with_reducible refine (FR_ _ GG.out).mono ?_; rintro e wx ⟨rfl, rfl⟩)
          | (go_at_call 48; with_reducible refine (MK _ GG.out).mono ?_; rintro e wy ⟨rfl, RTO⟩))
        go_ret
        obtain ⟨c, t1, G1, k, _, _, _, _, _, n1⟩ := (HH.out.on GG.out).tree2 RTO
        exact ⟨rfl, FTo.gw GG.out ⟨c, t1, G1, k, n1⟩⟩
      subst h5
      rw [if_neg (by simp)]
      have hm1 : m1 = s.t.nx := by
        have := make0 (s := s.t) (p := p.data.toList) (d := false) (by rw [← hm])
        rw [← hm] at this
        exact this
      obtain ⟨f, hf⟩ : ∃ f : Nat, m1 = f := ⟨m1.toNat, by omega⟩
      have hfb : f ≤ 1000000 := by omega
      have hdl : s.d.length ≤ f := by have := ok.dn; omega
      clear hm1
      subst hf
      have HPD : Hid (padD s.d (f : Int) = s.d ++ List.replicate (f + 1 - s.d.length) []) := by show _ = _; unfold padD; congr 2; omega
      rw [Int.toNat_natCast, ← hM]
      clear H hr hav hfr hb h1 hg h3 h4 hm hM hn1
      go_enter Try.func59, Try.ntmps59
      go_upto_region 17 with (first
        | (go_at_call 44; with_reducible refine (NM _).mono ?_; rintro e wx ⟨rfl, GX⟩; have GG := Lib.hid (GG.out.trans GX); have c0 := GG.out.cell HC0.out)
        | (go_at_call 47; with_reducible refine (FI _ GG.out).mono ?_; rintro e wx ⟨rfl, GX⟩; have GG := Lib.hid (GG.out.trans GX); have c0 := GG.out.cell HC0.out)
        | (go_at_call 80; with_reducible refine (AB _ GG.out).mono ?_; rintro e wx ⟨rfl, GX⟩; have GG := Lib.hid (GG.out.trans GX); have c0 := GG.out.cell HC0.out)
        | (go_at_call 88; with_reducible refine (FR_ _ GG.out).mono ?_; rintro e wx ⟨rfl, rfl⟩)
        | (go_at_call 48; with_reducible refine (MK _ GG.out).mono ?_; rintro e wy ⟨rfl, RTO⟩))
      obtain ⟨c, t1, G1, k, _, _, _, _, _, n1⟩ := (HH.out.on GG.out).tree2 RTO
      have W0 := FTo.gw GG.out ⟨c, t1, G1, k, n1⟩
      have HW0 : Hid (Way bz tau w h { s with t := t', d := s.d ++ List.replicate 0 [] } wy) := by
        show Way _ _ _ _ _ _
        rw [List.replicate_zero, List.append_nil]
        exact ⟨W0.ch, W0.ex⟩
      clear c k n1 W0 RTO MK NM FI AB FR_
      obtain ⟨i0, hi1, hi2, hi3, hi4⟩ := info_bs
      have HI := Lib.hid (And.intro hi1 (And.intro hi2 (And.intro hi3 hi4)))
      have hm8 : Hid (maxLen = 9223372036854775807) := rfl
      clear hi1 hi2 hi3 hi4
      go_loopw [] (fun wr => ∃ q : Nat, q ≤ f + 1 - s.d.length ∧ Hid (Way bz tau w h { s with t := t', d := s.d ++ List.replicate q [] } wr)) (fun wr => f + 1 - dLen wr h)
      case atStart => exact ⟨0, by omega, HW0⟩
      case round =>
        clear HW0
        obtain ⟨q, hq, HW⟩ := hrel
        obtain ⟨tau1, G1, H1, n1⟩ := HW.out.ex
        have HZ := Lib.hid H1
        obtain ⟨Ad, cd, hdv0⟩ := own_form1 H1.dr
        obtain ⟨D, hD⟩ : ∃ D, D = s.d.length + q := ⟨_, rfl⟩
        have hDl : (s.d ++ List.replicate q ([] : List UInt8)).length = D := by simp [hD]
        have hdv : G1.dv = .slice Ad D cd := by rw [hdv0]; show Value.slice Ad (s.d ++ List.replicate q ([] : List UInt8)).length cd = _; rw [hDl]
        have c1 : wr.cell? ⟨h, 1, none⟩ = some (.slice Ad D cd) := by rw [← hdv]; exact H1.hd.cell 1
        have f1 := H1.hd.free 1
        have HDV := Lib.hid hdv
        have HDD := Lib.hid hD
        have HDL := Lib.hid hDl
        clear H1 hdv0 hdv hD hDl
        by_cases hDf : D ≤ f
        · have hDf' : decide ((D : Int) ≤ (f : Int)) = true := decide_eq_true (by omega)
          have OW : Hid ((wr.alloc (.cells #[.slice none 0 0] 52)).ownsRow bz 52 1 (.slice Ad D cd) D G1.ds) := by
            show World.ownsRow _ _ _ _ _ _ _
            rw [← HDV.out]
            have := HZ.out.dr
            rw [show ({ t := t', d := s.d ++ List.replicate q [], o := s.o, fd := s.fd } : Fs).d.length = D from HDL.out] at this
            exact own_keep this (fun b _ hb => Below.heap_alloc wr _ b hb)
          have HBZ : Hid (bz ≤ (wr.alloc (.cells #[.slice none 0 0] 52)).heap.size) := Nat.le_trans HZ.out.hz (alloc_size wr _)
          have NOH : Hid (Value.ownBlock (.slice Ad D cd) ≠ some h) := fun e => by
            rw [← HDV.out] at e
            have := HZ.out.td h e
            rw [HZ.out.th] at this
            cases this
          have HLT : Hid (h < (wr.alloc (.cells #[.slice none 0 0] 52)).heap.size) := Nat.lt_of_lt_of_le (lt_cell c1) (alloc_size wr _)
          go_wp2_with (at_builtin; refine wpList_append_lies _ rfl _ _ _ rfl bz 52 i0 _ 1 24 Try.underlying64 HI.out.1 HI.out.2.1 HI.out.2.2.1 HI.out.2.2.2 rfl (by omega) (.slice Ad D cd) D G1.ds rfl OW.out ⟨wr.heap.size, 0, none⟩ 1 1 [.slice none 0 0] rfl rfl (World.news_of_block (heap_alloc_new wr _)) (by simp [Value.oneCell']) (by omega) (by have := hm8.out; omega) (by omega) HBZ.out _ rfl ?_; intro g1 cc wp own1 gr1 at1 hlt1; have kz := gr1.block h HLT.out (fun e => NOH.out e.symm); have k4 : wp.cell? ⟨h, 1, none⟩ = some (.slice Ad D cd) := ((World.cell?_of_block (a := ⟨h, 1, none⟩) kz).trans ((Gw.alloc wr _).cell c1)); have k4f : wp.frozen? ⟨h, 1, none⟩ = false := ((World.frozen?_of_block (a := ⟨h, 1, none⟩) kz).trans (((Gw.alloc wr _).frz c1).trans f1)))
          have gr2 := gr1
          have at2 := at1
          have own2 := own1
          rw [← HDV.out] at gr2 at2
          have PN : FTo bz tau1 wr h { s with t := t', d := s.d ++ List.replicate q [] ++ [[]] } (wp.setCell ⟨h, 1, none⟩ (.slice (some ⟨g1, 0, none⟩) (D + 1) cc)) := by
            have := HZ.out.pad (g1 := g1) (cap := cc) (Gw.alloc wr _) gr2 at2 (by show World.ownsRow _ _ _ _ (.slice _ ((s.d ++ List.replicate q ([] : List UInt8)).length + 1) _) ((s.d ++ List.replicate q ([] : List UInt8)).length + 1) _; rw [HDL.out]; exact own2)
            rw [show ({ t := t', d := s.d ++ List.replicate q [], o := s.o, fd := s.fd } : Fs).d.length = D from HDL.out] at this
            exact this
          rw [List.append_assoc, ← List.replicate_succ'] at PN
          have HS := FTo.step HW.out.ch n1 PN
          have HW2 : Hid (Way bz tau w h { s with t := t', d := s.d ++ List.replicate (q + 1) [] } (wp.setCell ⟨h, 1, none⟩ (.slice (some ⟨g1, 0, none⟩) (D + 1) cc))) := ⟨HS.ch, HS.ex⟩
          have hq2 : q + 1 ≤ f + 1 - s.d.length := by have := HDD.out; omega
          have m1 : dLen wr h = D := by unfold dLen; rw [c1]; rfl
          obtain ⟨t3, G3, H3, _⟩ := HS.ex
          have m2 : dLen (wp.setCell ⟨h, 1, none⟩ (.slice (some ⟨g1, 0, none⟩) (D + 1) cc)) h = D + 1 := by
            unfold dLen
            obtain ⟨A3, c3, hd3⟩ := own_form1 H3.dr
            have c4 : (wp.setCell ⟨h, 1, none⟩ (.slice (some ⟨g1, 0, none⟩) (D + 1) cc)).cell? ⟨h, 1, none⟩ = some G3.dv := H3.hd.cell 1
            rw [c4, hd3]
            show (s.d ++ List.replicate (q + 1) ([] : List UInt8)).length = D + 1
            have := HDL.out
            simp at this ⊢
            omega
          have HM12 := Lib.hid (And.intro m1 m2)
          clear gr1 at1 own1 gr2 at2 own2 PN HS H3 m1 m2 k4 k4f kz
          go_roundw
          case rel => exact ⟨q + 1, hq2, HW2.out⟩
          case measure => rw [HM12.out.1]; first | (rw [HM12.out.2]; omega) | (simp only; rw [HM12.out.2]; omega)
        · have hDf' : decide ((D : Int) ≤ (f : Int)) = false := decide_eq_false (by omega)
          have hq' : q = f + 1 - s.d.length := by have := HDD.out; omega
          subst hq'
          have HFL : Hid (f < (s.d ++ List.replicate (f + 1 - s.d.length) ([] : List UInt8)).length) := by show _ < _; rw [HDL.out]; omega
          clear hq f1 HI
          obtain ⟨Ao, co, hov0⟩ := own_form1 HZ.out.or_
          have hov : G1.ov = .slice Ao s.o.length co := hov0
          clear hov0
          have c2 : wr.drew.cell? ⟨h, 2, none⟩ = some (.slice Ao M co) := by rw [HM.out, ← hov]; exact HZ.out.hd.cell 2
          obtain ⟨c3, f3⟩ := HZ.out.fdc hfd
          have c3' : wr.drew.cell? ⟨h, 3 + n, none⟩ = some (.int .i64 kf) := c3
          have f3' : wr.drew.frozen? ⟨h, 3 + n, none⟩ = false := f3
          go_upto_region 19 with fail
          go_region
          have hd2 := (HZ.out.hd.put (3 + n) (.int .i64 (M : Int)))
          rw [hC_setfd] at hd2
          have HD2 := Lib.hid hd2
          obtain ⟨w0, hw0⟩ : ∃ w0, w0 = (wr.setCell ⟨h, 3 + n, none⟩ (.int .i64 (M : Int))).drew := ⟨_, rfl⟩
          have KW : Hid (Gw (wr.setCell ⟨h, 3 + n, none⟩ (.int .i64 (M : Int))) w0) := by rw [hw0]; exact (Gw.refl _).drew
          have k2 : w0.cell? ⟨h, 2, none⟩ = some (.slice Ao M co) := by
            rw [hw0, HM.out, ← hov]
            rw [HM.out] at hd2
            exact hd2.cell 2
          rw [← hw0]
          have HOV := Lib.hid hov
          have OW : Hid (((w0.alloc (.cells #[.int .i64 (f : Int), .int .i64 0] 136)).alloc (.cells #[.pointer (some ⟨w0.heap.size, 0, none⟩)] 134)).ownsRow bz 134 1 (.slice Ao M co) M (G1.ps.map ptV)) := by
            show World.ownsRow _ _ _ _ _ _ _
            rw [HM.out, ← hov]
            refine own_same HZ.out.or_ (fun b hb => ?_)
            have hbl := (HZ.out.lt b (by rw [HZ.out.tov b hb]; decide)).2
            have zs : (wr.setCell ⟨h, 3 + n, none⟩ (.int .i64 (M : Int))).heap.size = wr.heap.size := by simp
            have z0 := KW.out.size
            rw [zs] at z0
            rw [Below.heap_alloc _ _ b (by rw [size_alloc]; omega), Below.heap_alloc _ _ b (by omega), KW.out.block b (by rw [zs]; exact hbl)]
            exact set_other (p := ⟨h, 3 + n, none⟩) (fun e => by have e' : b = h := e; have h1 := HZ.out.tov b hb; rw [e', HZ.out.th] at h1; cases h1)
          have HNW : Hid (((w0.alloc (.cells #[.int .i64 (f : Int), .int .i64 0] 136)).alloc (.cells #[.pointer (some ⟨w0.heap.size, 0, none⟩)] 134)).heap[w0.heap.size + 1]? = some (.cells #[.pointer (some ⟨w0.heap.size, 0, none⟩)] 134)) := by
            have := heap_alloc_new (w0.alloc (.cells #[.int .i64 (f : Int), .int .i64 0] 136)) (.cells #[.pointer (some ⟨w0.heap.size, 0, none⟩)] 134)
            rw [size_alloc] at this
            exact this
          have HBZ : Hid (bz ≤ ((w0.alloc (.cells #[.int .i64 (f : Int), .int .i64 0] 136)).alloc (.cells #[.pointer (some ⟨w0.heap.size, 0, none⟩)] 134)).heap.size) := by
            have z0 := KW.out.size
            have zs : (wr.setCell ⟨h, 3 + n, none⟩ (.int .i64 (M : Int))).heap.size = wr.heap.size := by simp
            rw [zs] at z0
            show _ ≤ _
            rw [size_alloc, size_alloc]
            have := HZ.out.hz
            omega
          have HLT : Hid (h < ((w0.alloc (.cells #[.int .i64 (f : Int), .int .i64 0] 136)).alloc (.cells #[.pointer (some ⟨w0.heap.size, 0, none⟩)] 134)).heap.size ∧ h < w0.heap.size) := by
            have h1 := lt_cell k2
            show _ ∧ _
            rw [size_alloc, size_alloc]
            exact ⟨by omega, h1⟩
          have k2f : w0.frozen? ⟨h, 2, none⟩ = false := (KW.out.frz (HD2.out.cell 2)).trans (HD2.out.free 2)
          obtain ⟨i0, hi1, hi2, hi3, hi4⟩ := info_op
          have HI := Lib.hid (And.intro hi1 (And.intro hi2 (And.intro hi3 hi4)))
          have NOH : Hid (G1.ov.ownBlock ≠ some h) := fun e => by have := HZ.out.tov h e; rw [HZ.out.th] at this; cases this
          have hm8 : Hid (maxLen = 9223372036854775807) := rfl
          have HM1 : Hid (M ≤ 1000000) := by show _ ≤ _; rw [HM.out]; exact hol
          clear hw0 hov hd2 c2 c3 f3 c3' f3' hi1 hi2 hi3 hi4
          go_wp2_with (at_builtin; refine wpList_append_lies _ rfl _ _ _ rfl bz 134 i0 _ 1 8 Try.underlying115 HI.out.1 HI.out.2.1 HI.out.2.2.1 HI.out.2.2.2 rfl (by omega) (.slice Ao M co) M (G1.ps.map ptV) rfl OW.out ⟨w0.heap.size + 1, 0, none⟩ 1 1 [.pointer (some ⟨w0.heap.size, 0, none⟩)] rfl rfl (World.news_of_block HNW.out) (by simp [Value.oneCell']) (by omega) (by have := hm8.out; have := HM1.out; omega) (by have := HM1.out; omega) HBZ.out _ rfl ?_; intro g1 c1 wp own1 gr1 at1 hlt1; have hnb : some h ≠ Value.ownBlock (.slice Ao M co) := (by rw [HM.out, ← HOV.out]; exact fun e => NOH.out e.symm); have kz := gr1.block h HLT.out.1 hnb; have k4 : wp.cell? ⟨h, 2, none⟩ = some (.slice Ao M co) := ((World.cell?_of_block (a := ⟨h, 2, none⟩) kz).trans (((Gw.alloc w0 _).trans (Gw.alloc _ _)).cell k2)); have k4f : wp.frozen? ⟨h, 2, none⟩ = false := ((World.frozen?_of_block (a := ⟨h, 2, none⟩) kz).trans ((((Gw.alloc w0 _).trans (Gw.alloc _ _)).frz k2).trans k2f)))
          go_ret
          have hM := HM.out
          subst hM
          have gr2 := gr1
          have at2 := at1
          have own2 := own1
          rw [← HOV.out] at gr2 at2
          have HE := HZ.out.opens (x := (f, 0)) ⟨HFL.out, Nat.zero_le _⟩ KW.out gr2 at2 own2
          have HE2 := FTo.step HW.out.ch n1 HE
          rw [HPD.out]
          exact ⟨by simp, HE2⟩
end
end Go.Proofs.Ytckoapfmfpmdgaa
