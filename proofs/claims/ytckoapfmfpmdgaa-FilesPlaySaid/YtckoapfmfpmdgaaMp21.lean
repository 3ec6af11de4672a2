/-
  Parts of the proof, joined: FzT, NameC, NameP, Lib, NameU, NameO.
-/
import Derived.Test.YtckoapfmfpmdgaaMp20
import Derived.Test.YtckoapfmfpmdgaaMp05
import Derived.Shelf.Strings.Search2
import Derived.Shelf.Small.Bits
import Derived.Shelf.Strconv.Clone
import Derived.Ground.NamesProg
import Derived.Test.YtckoapfmfpmdgaaProg
import Derived.Lib.CutLaws
import Derived.Lib.IndexLaws

namespace Go.Proofs.Ytckoapfmfpmdgaa
open Go.ChangeShapes Go.WideShapes Go.ChangeAt Go.RowKit Go.Joins
set_option linter.unusedVariables false
set_option linter.unusedSimpArgs false

/-- One file system of the program, laid open. -/
structure Fx1 (T : TP) (F : Nat → Prop) (W : World) (v : Value) (s : Fs) (g : Nat) (a : Addr) (fb ob db : Nat) (Ft : Nat → Prop) (c : Cs) : Prop where
  v : v = .pointer (some ⟨g, 0, none⟩)
  h : Fi T W F Ft W g a fb ob db c
  r : Rel c s
theorem FTT.open_ {T : TP} {F : Nat → Prop} {W : World} {v : Value} {s : Fs} (h : FTT T F W v s) : ∃ g a fb ob db Ft c, Fx1 T F W v s g a fb ob db Ft c := by
  obtain ⟨g, a, fb, ob, db, Ft, c, rfl, h1, R, rfl⟩ := h
  exact ⟨g, a, fb, ob, db, Ft, c, rfl, h1, R⟩
theorem btf_of {F' : Nat → Prop} {base : Nat} {w1 w' : World} {y : Value} {l : List UInt8} (h : NewB w1.heap.size w' y l) (hs : base ≤ w1.heap.size) (hF : ∀ k, F' k → k < w1.heap.size) : BtF F' base w' y l := by
  obtain ⟨A, cap, h1, h2, h3, h4⟩ := h
  refine ⟨A, cap, h1, h2, h3, fun j c hj => ?_⟩
  obtain ⟨b, off, q1, q2, q3⟩ := h4 j c hj
  exact ⟨b, off, q1, by omega, fun hf => by have := hF b hf; omega, q3⟩
theorem btf_nil (F' : Nat → Prop) (base : Nat) (w : World) : BtF F' base w (.slice none 0 0) [] := ⟨none, 0, rfl, Nat.le_refl _, by decide, fun j c hj => by simp at hj⟩
section
variable {T : TP} (C : TreeC T) {F : Nat → Prop} {W : World} {v : Value} {s : Fs}
include C
theorem c_size (hT : FTT T F W v s) (ok : FOk s) (fd : Nat) (hf : fd ≤ 65535) : Calls Try.prog 40 #[v, .int .u16 (fd : Int)] W fun e W' => e = .returned (.int .u16 (sizeF s fd)) ∧ KpF (FTT T) F v s W W' := by
  obtain ⟨g, a, fb, ob, db, Ft, c, rfl, h, R⟩ := hT.open_
  cases hi : ofI s fd with
  | none =>
    refine (zsize_none C h hf (by rw [R.d, hi])).mono fun e w ⟨he, G⟩ => ⟨?_, (h.on C G).kpf R⟩
    rw [he]; unfold sizeF; rw [hi]
  | some i =>
    obtain ⟨x, ho, hx, hb, hn⟩ := R.used hi
    have B := R.bnd ok.m
    refine (zsize_some C h hf (by rw [R.d, hi]) ho (B.o _ _ ho) hx (B.f _ _ hx) (R.fk _ _ hx).2.2).mono fun e w ⟨he, G⟩ => ⟨?_, (h.on C G).kpf R⟩
    rw [he, hn]; unfold sizeF; rw [hi]
theorem c_seek (hT : FTT T F W v s) (ok : FOk s) (fd n : Nat) (hf : fd ≤ 65535) : Calls Try.prog 36 #[v, .int .u16 (fd : Int), .int .u16 (n : Int)] W fun e W' => e = .returned (.int .u16 (seekF s fd n).1) ∧ KpF (FTT T) F v (seekF s fd n).2 W W' := by
  obtain ⟨g, a, fb, ob, db, Ft, c, rfl, h, R⟩ := hT.open_
  cases hi : ofI s fd with
  | none =>
    have e0 : seekF s fd n = (65289, s) := by unfold seekF; rw [hi]
    rw [e0]
    exact (zseek_none C h hf (by rw [R.d, hi]) n).mono fun e w ⟨he, G⟩ => ⟨he, (h.on C G).kpf R⟩
  | some i =>
    by_cases hb : 255 < n
    · have e0 : seekF s fd n = (65302, s) := by unfold seekF; rw [hi]; simp only; rw [if_pos hb]
      rw [e0]
      exact (zseek_big C h hf (by rw [R.d, hi]) hb).mono fun e w ⟨he, G⟩ => ⟨he, (h.on C G).kpf R⟩
    · have e0 : seekF s fd n = ((n : Int), { s with o := s.o.set i (filI s i, n) }) := by unfold seekF; rw [hi]; simp only; rw [if_neg hb]
      rw [e0]
      obtain ⟨x, ho, hx, _, _⟩ := R.used hi
      have B := R.bnd ok.m
      exact (zseek_some C h hf (by rw [R.d, hi]) ho (B.o _ _ ho) B (n := n) (by omega)).mono fun e w ⟨he, H⟩ => ⟨he, H.kpf (R.oput (ofI_lt ok.m hi).2.1 (by omega) (R.ok _ _ ho).2.2)⟩
theorem c_trunc (hT : FTT T F W v s) (ok : FOk s) (fd n : Nat) (hf : fd ≤ 65535) : Calls Try.prog 41 #[v, .int .u16 (fd : Int), .int .u16 (n : Int)] W fun e W' => e = .returned (.int .u16 (truncF s fd n).1) ∧ KpF (FTT T) F v (truncF s fd n).2 W W' := by
  obtain ⟨g, a, fb, ob, db, Ft, c, rfl, h, R⟩ := hT.open_
  cases hi : ofI s fd with
  | none =>
    have e0 : truncF s fd n = (65289, s) := by unfold truncF; rw [hi]
    rw [e0]
    exact (ztrunc_none C h hf (by rw [R.d, hi]) n).mono fun e w ⟨he, G⟩ => ⟨he, (h.on C G).kpf R⟩
  | some i =>
    by_cases hb : 8 < n
    · have e0 : truncF s fd n = (65302, s) := by unfold truncF; rw [hi]; simp only; rw [if_pos hb]
      rw [e0]
      exact (ztrunc_big C h hf (by rw [R.d, hi]) hb).mono fun e w ⟨he, G⟩ => ⟨he, (h.on C G).kpf R⟩
    · have e0 : truncF s fd n = (0, { s with d := s.d.set (filI s i) (cutL (datI s i) n) }) := by unfold truncF; rw [hi]; simp only; rw [if_neg hb]
      rw [e0]
      obtain ⟨x, ho, hx, hxb, hxn⟩ := R.used hi
      have B := R.bnd ok.m
      have D := get_dat ok.m (ofI_lt ok.m hi).2.1
      have R2 := R.dput D.1 hx (l := cutL (datI s i) n) (by rw [zcutL_len]; omega)
      rw [pad8_cut D.2.2.1 (by omega), zcutL_len, ← hxb] at R2
      exact (ztrunc_some C h hf (by rw [R.d, hi]) ho (B.o _ _ ho) hx (B.f _ _ hx) (R.fk _ _ hx).2.2 B (n := n) (by omega)).mono fun e w ⟨he, H⟩ => ⟨he, H.kpf R2⟩
theorem c_twin (hT : FTT T F W v s) (ok : FOk s) (fd : Nat) (hf : fd ≤ 65535) : Calls Try.prog 34 #[v, .int .u16 (fd : Int)] W fun e W' => e = .returned (.int .u16 (twinF s fd).1) ∧ KpF (FTT T) F v (twinF s fd).2 W W' := by
  obtain ⟨g, a, fb, ob, db, Ft, c, rfl, h, R⟩ := hT.open_
  cases hi : ofI s fd with
  | none =>
    have e0 : twinF s fd = (65289, s) := by unfold twinF; rw [hi]
    rw [e0]
    exact (ztwin_none C h hf (by rw [R.d, hi])).mono fun e w ⟨he, G⟩ => ⟨he, (h.on C G).kpf R⟩
  | some i =>
    refine (ztwin_some C h hf (by rw [R.d, hi]) (R.bnd ok.m)).mono fun e w hp => ?_
    rcases hp with ⟨k, hk, h0, hall, he, H⟩ | ⟨hall, he, H⟩
    · have ef := zfree_is ok.m hk (by rw [← R.d]; exact h0) (fun j hj => by rw [← R.d]; exact hall j hj)
      have e0 : twinF s fd = ((k : Int), { s with fd := s.fd.set k i }) := by unfold twinF; rw [hi]; simp only; rw [ef, if_neg (by omega), Int.toNat_natCast]
      rw [e0]
      exact ⟨he, H.kpf (R.twin ok.m hi hk)⟩
    · have ef := zfree_no ok.m (fun j hj => by rw [← R.d]; exact hall j hj)
      have e0 : twinF s fd = (65304, s) := by unfold twinF; rw [hi]; simp only; rw [if_pos ef]
      rw [e0]
      exact ⟨he, H.kpf R⟩
theorem c_close (hT : FTT T F W v s) (ok : FOk s) (fd : Nat) (hf : fd ≤ 65535) : Calls Try.prog 42 #[v, .int .u16 (fd : Int)] W fun e W' => e = .returned (.int .u16 (closeF s fd).1) ∧ KpF (FTT T) F v (closeF s fd).2 W W' := by
  obtain ⟨g, a, fb, ob, db, Ft, c, rfl, h, R⟩ := hT.open_
  cases hi : ofI s fd with
  | none =>
    have e0 : closeF s fd = (65289, s) := by unfold closeF; rw [hi]
    rw [e0]
    exact (zclose_none C h hf (by rw [R.d, hi])).mono fun e w ⟨he, G⟩ => ⟨he, (h.on C G).kpf R⟩
  | some i =>
    obtain ⟨x, ho, hx, hxb, hxn⟩ := R.used hi
    have B := R.bnd ok.m
    refine (zclose_some C h hf (by rw [R.d, hi]) ho (B.o _ _ ho) (B.f _ _ hx)).mono fun e w ⟨he, c', H, hc⟩ => ⟨?_, H.kpf (R.clo ok.m hi hc)⟩
    rw [he]; unfold closeF; rw [hi]
theorem c_read (hT : FTT T F W v s) (ok : FOk s) (fd n : Nat) (hf : fd ≤ 65535) (hn : n ≤ 65535) : Calls Try.prog 35 #[v, .int .u16 (fd : Int), .int .u16 (n : Int)] W fun e W' => BnP (FTT T) F v W (readF s fd n).1 (readF s fd n).2 e W' := by
  obtain ⟨g, a, fb, ob, db, Ft, c, rfl, h, R⟩ := hT.open_
  cases hi : ofI s fd with
  | none =>
    have e0 : readF s fd n = (([], 65289), s) := by unfold readF; rw [hi]
    rw [e0]
    exact (zread_none C h hf (by rw [R.d, hi]) n).mono fun e w ⟨he, G⟩ => by
      have H := h.on C G
      exact ⟨_, _, he, H.ch, ⟨g, a, fb, ob, db, Ft, c, rfl, H.base, R, rfl⟩, H.own, btf_nil _ _ _⟩
  | some i =>
    obtain ⟨x, ho, hx, hxb, hxn⟩ := R.used hi
    have B := R.bnd ok.m
    have L := ofI_lt ok.m hi
    have D := get_dat ok.m L.2.1
    have hx8 := (R.fk _ _ hx).2.2
    refine (zread_some C h hf (by rw [R.d, hi]) ho (B.o _ _ ho) hx (B.f _ _ hx) hx8 B (R.ok _ _ ho).2.1 hn rfl rfl).mono fun e w ⟨y, he, H, w1, _, hs, hF, hN⟩ => ?_
    have hk : min (min (offI s i) x.n + n) x.n - min (offI s i) x.n = manyR s i n := by unfold manyR; rw [hxn]; omega
    rw [hk] at he H hN
    have hl : (x.b.drop (min (offI s i) x.n)).take (manyR s i n) = ((datI s i).drop (offI s i)).take (manyR s i n) := by
      by_cases h0 : manyR s i n = 0
      · rw [h0, List.take_zero, List.take_zero]
      · have hm : manyR s i n = min n ((datI s i).length - offI s i) := rfl
        have : min (offI s i) x.n = offI s i := by omega
        rw [this, hxb]
        exact pad8_sub (by omega)
    rw [hl] at hN
    by_cases h0 : manyR s i n = 0
    · have e0 : readF s fd n = (([], 0), s) := by unfold readF; rw [hi]; simp only; rw [if_pos h0]
      rw [e0]
      rw [h0] at he H hN
      rw [Nat.add_zero, setM_id ho] at H
      rw [List.take_zero] at hN
      exact ⟨y, _, he, H.ch, ⟨g, a, fb, ob, db, Ft, c, rfl, H.base, R, rfl⟩, H.own, btf_of hN hs hF⟩
    · have e0 : readF s fd n = ((((datI s i).drop (offI s i)).take (manyR s i n), (manyR s i n : Int)), { s with o := s.o.set i (filI s i, offI s i + manyR s i n) }) := by unfold readF; rw [hi]; simp only; rw [if_neg h0]
      rw [e0]
      have hm : manyR s i n = min n ((datI s i).length - offI s i) := rfl
      have D8 := D.2.2.1
      exact ⟨y, _, he, H.ch, ⟨g, a, fb, ob, db, Ft, _, rfl, H.base, R.oput L.2.1 (by omega) (R.ok _ _ ho).2.2, rfl⟩, H.own, btf_of hN hs hF⟩
theorem c_write (hT : FTT T F W v s) (ok : FOk s) (fd : Nat) (y : Value) (lb : List UInt8) (hf : fd ≤ 65535) (hy : BtA W y lb) : Calls Try.prog 37 #[v, .int .u16 (fd : Int), y] W fun e W' => e = .returned (.int .u16 (writeF s fd lb).1) ∧ KpF (FTT T) F v (writeF s fd lb).2 W W' := by
  obtain ⟨g, a, fb, ob, db, Ft, c, rfl, h, R⟩ := hT.open_
  cases hi : ofI s fd with
  | none =>
    have e0 : writeF s fd lb = (65289, s) := by unfold writeF; rw [hi]
    rw [e0]
    exact (zwrite_none C h hf (by rw [R.d, hi]) y).mono fun e w ⟨he, G⟩ => ⟨he, (h.on C G).kpf R⟩
  | some i =>
    obtain ⟨A, cap, rfl, hlc, hc63, hby⟩ := hy
    obtain ⟨x, ho, hx, hxb, hxn⟩ := R.used hi
    have B := R.bnd ok.m
    have L := ofI_lt ok.m hi
    have D := get_dat ok.m L.2.1
    have hx8 := (R.fk _ _ hx).2.2
    cases hl : lb with
    | nil =>
      have e0 : writeF s fd [] = (0, s) := by unfold writeF; rw [hi]; simp
      rw [e0]
      exact (zwrite_nil C h hf (by rw [R.d, hi]) A cap).mono fun e w ⟨he, G⟩ => ⟨he, (h.on C G).kpf R⟩
    | cons z lz =>
      rw [← hl]
      have hne : lb ≠ [] := by rw [hl]; simp
      by_cases h8 : 8 ≤ offI s i
      · have e0 : writeF s fd lb = (65308, s) := by unfold writeF; rw [hi]; simp only; rw [if_neg hne, if_pos h8]
        rw [e0]
        exact (zwrite_full C h hf (by rw [R.d, hi]) ho (B.o _ _ ho) hne h8 A cap).mono fun e w ⟨he, G⟩ => ⟨he, (h.on C G).kpf R⟩
      · obtain ⟨yb, yo, rfl, _⟩ := hby 0 z (by rw [hl]; rfl)
        have e0 : writeF s fd lb = (((min lb.length (8 - offI s i) : Nat) : Int), { s with d := s.d.set (filI s i) (putL (datI s i) (offI s i) (lb.take (8 - offI s i))), o := s.o.set i (filI s i, offI s i + min lb.length (8 - offI s i)) }) := by
          unfold writeF; rw [hi]; simp only; rw [if_neg hne, if_neg h8]
          refine Prod.ext ?_ rfl
          simp only
          omega
        rw [e0]
        have hlen : (lb.take (8 - offI s i)).length = min lb.length (8 - offI s i) := by simp; omega
        have htk : lb.take (min lb.length (8 - offI s i)) = lb.take (8 - offI s i) := by
          by_cases q : lb.length ≤ 8 - offI s i
          · rw [Nat.min_eq_left q, List.take_length, List.take_of_length_le q]
          · rw [Nat.min_eq_right (by omega)]
        have R2 := R.dput D.1 hx (l := putL (datI s i) (offI s i) (lb.take (8 - offI s i))) (by rw [zputL_len, hlen]; have := D.2.2.1; omega)
        rw [pad8_put D.2.2.1 (by rw [hlen]; omega), zputL_len, hlen, ← hxb, ← hxn] at R2
        have R3 := R2.oput (i := i) (a := offI s i + min lb.length (8 - offI s i)) L.2.1 (by omega) (R.ok _ _ ho).2.2
        refine (zwrite_some C h hf (by rw [R.d, hi]) ho (B.o _ _ ho) hx (B.f _ _ hx) hx8 B hne (by omega) rfl (yb := yb) (yo := yo) (cap := cap) (fun j y hj => by
          obtain ⟨b', o', q1, q2⟩ := hby j y hj
          cases q1
          exact q2)).mono fun e w ⟨he, H⟩ => ⟨he, H.kpf ?_⟩
        rw [htk]
        exact R3
end
end Go.Proofs.Ytckoapfmfpmdgaa

namespace Go.Proofs.Ytckoapfmfpmdgaa
open Go.ChangeShapes Go.WideShapes Go.ChangeAt Go.RowKit Go.Joins
set_option linter.unusedVariables false

def SplitC : Prop := ∀ (s : ByteArray) (W : World), s.size ≤ 140737488351232 → Calls Try.prog 84 #[.string s] W fun e W' => e = .returned (.tuple #[.string (bs (spl s.data.toList).1), .string (bs (spl s.data.toList).2)]) ∧ Gw W W'
end Go.Proofs.Ytckoapfmfpmdgaa

namespace Go.Proofs.Ytckoapfmfpmdgaa
open Go.ChangeShapes Go.WideShapes Go.ChangeAt Go.RowKit Go.Joins
set_option linter.unusedVariables false

set_option maxHeartbeats 2000000 in
theorem letter_any (c : UInt8) (W : World) : Calls Try.prog 96 #[.int .u8 (c.toNat : Int)] W fun e W' => e = .returned (.bool (chOk c)) ∧ W' = W := by
  have hb := c.toNat_lt
  have hch : chOk c = (decide (97 ≤ c.toNat) && decide (c.toNat ≤ 122) || decide (48 ≤ c.toNat) && decide (c.toNat ≤ 57) || decide (c.toNat = 46) || decide (c.toNat = 95)) := rfl
  have HCH := Lib.hid hch
  clear hch
  generalize chOk c = r at HCH ⊢
  generalize c.toNat = n at HCH hb ⊢
  by_cases h1 : 97 ≤ n
  · by_cases h2 : n ≤ 122
    · have k1 : (97 : Int) ≤ n := by omega
      have k2 : (n : Int) ≤ 122 := by omega
      have hr : r = true := by rw [HCH.out, decide_eq_true h1, decide_eq_true h2]; rfl
      clear h1 h2
      subst hr
      go_enter Try.func96, Try.ntmps96
      go_wp2
      go_ret
      exact ⟨rfl, rfl⟩
    · have k1 : (97 : Int) ≤ n := by omega
      have k2 : decide ((n : Int) ≤ 122) = false := decide_eq_false (by omega)
      have k3 : (48 : Int) ≤ n := by omega
      have k4 : decide ((n : Int) ≤ 57) = false := decide_eq_false (by omega)
      have k5 : ((n : Int) == 46) = false := by simp; omega
      have k6 : ((n : Int) == 95) = false := by simp; omega
      have hr : r = false := by rw [HCH.out, decide_eq_false h2, decide_eq_false (by omega : ¬ n ≤ 57), decide_eq_false (by omega : ¬ n = 46), decide_eq_false (by omega : ¬ n = 95)]; simp
      clear h1 h2
      subst hr
      go_enter Try.func96, Try.ntmps96
      go_wp2
      go_ret
      exact ⟨rfl, rfl⟩
  · have k1 : decide ((97 : Int) ≤ n) = false := decide_eq_false (by omega)
    by_cases h3 : 48 ≤ n ∧ n ≤ 57
    · have k3 : (48 : Int) ≤ n := by omega
      have k4 : (n : Int) ≤ 57 := by omega
      have hr : r = true := by rw [HCH.out, decide_eq_true h3.1, decide_eq_true h3.2]; simp
      clear h1 h3
      subst hr
      go_enter Try.func96, Try.ntmps96
      go_wp2
      go_ret
      exact ⟨rfl, rfl⟩
    · have hr0 : r = (decide (n = 46) || decide (n = 95)) := by
        rw [HCH.out, decide_eq_false h1]
        by_cases h : 48 ≤ n
        · rw [decide_eq_false (by omega : ¬ n ≤ 57)]; simp
        · rw [decide_eq_false h]; simp
      by_cases h5 : n = 46
      · have k5 : ((n : Int) == 46) = true := by simp; omega
        have k3 : decide ((48 : Int) ≤ n) = false := decide_eq_false (by omega)
        have hr : r = true := by rw [hr0, decide_eq_true h5]; rfl
        clear h1 h3 h5 hr0
        subst hr
        go_enter Try.func96, Try.ntmps96
        go_wp2
        go_ret
        exact ⟨rfl, rfl⟩
      · have k5 : ((n : Int) == 46) = false := by simp; omega
        have hr : r = decide (n = 95) := by rw [hr0, decide_eq_false h5]; rfl
        by_cases h6 : n = 95
        · have k6 : ((n : Int) == 95) = true := by simp; omega
          have k3 : (48 : Int) ≤ n := by omega
          have k4 : decide ((n : Int) ≤ 57) = false := decide_eq_false (by omega)
          rw [decide_eq_true h6] at hr
          clear h1 h3 h5 hr0 h6
          subst hr
          go_enter Try.func96, Try.ntmps96
          go_wp2
          go_ret
          exact ⟨rfl, rfl⟩
        · have k6 : ((n : Int) == 95) = false := by simp; omega
          rw [decide_eq_false h6] at hr
          by_cases h48 : 48 ≤ n
          · have k3 : (48 : Int) ≤ n := by omega
            have k4 : decide ((n : Int) ≤ 57) = false := decide_eq_false (by omega)
            clear h1 h3 h5 hr0 h6 h48
            subst hr
            go_enter Try.func96, Try.ntmps96
            go_wp2
            go_ret
            exact ⟨rfl, rfl⟩
          · have k3 : decide ((48 : Int) ≤ n) = false := decide_eq_false (by omega)
            clear h1 h3 h5 hr0 h6 h48
            subst hr
            go_enter Try.func96, Try.ntmps96
            go_wp2
            go_ret
            exact ⟨rfl, rfl⟩
set_option maxHeartbeats 2000000 in
theorem part_any (s : ByteArray) (W : World) (hs : s.size ≤ 140737488351232) : Calls Try.prog 93 #[.string s] W fun e W' => e = .returned (.bool (partB s.data.toList)) ∧ W' = W := by
  obtain ⟨l, hl⟩ : ∃ l, l = s.data.toList := ⟨_, rfl⟩
  have hsz : s.size = l.length := by rw [hl, Array.length_toList]; rfl
  have hsl : s.toList = l := by rw [hl]; exact (Lib.toList_data s)
  rw [← hl]
  have HL := Lib.hid hl
  have HSZ := Lib.hid hsz
  have HSL := Lib.hid hsl
  have HB := Lib.hid hs
  clear hl hsz hsl hs
  have hn : ∀ b w, (Op.unary .not (.bool b)).run Try.prog w = .ok (.bool (!b)) w := fun _ _ => rfl
  go_enter Try.func93, Try.ntmps93
  go_wp2_with fail
  go_loopw [6] (fun i wr => ∃ k : Nat, k ≤ l.length ∧ i = .int .i64 k ∧ Hid ((l.take k).all chOk = true) ∧ wr = W) (fun i _ => l.length - (intOf i).toNat)
  case atStart => exact ⟨0, by omega, rfl, by simp [Hid], rfl⟩
  case round =>
    obtain ⟨k, hk, rfl, HA, rfl⟩ := hrel
    by_cases hlt : k < l.length
    · obtain ⟨c, hc⟩ : ∃ c, l[k]? = some c := ⟨_, List.getElem?_eq_getElem hlt⟩
      have hlt' : k < s.size := by rw [HSZ.out]; exact hlt
      have hck := byte_at HL.out hc hlt'
      have F := letter_any c
      cases hb : chOk c with
      | true =>
        have HA2 := Lib.hid (show (l.take (k + 1)).all chOk = true by rw [all_take hc, HA.out, hb]; rfl)
        rw [hb] at F
        have h62 : (k : Int) + 1 ≤ 9223372036854775807 := by have := HB.out; omega
        clear hc HA hb
        go_wp2_with (go_at_call 96; with_reducible refine (F _).mono ?_; rintro e w' ⟨rfl, rfl⟩)
        go_roundw
        case rel => exact ⟨k + 1, by omega, by go_num, HA2.out, trivial⟩
        case measure => simp [intOf]; omega
      | false =>
        have HX := Lib.hid (show partB l = false by
          have : l.all chOk = false := List.all_eq_false.2 ⟨c, List.mem_of_getElem? hc, by rw [hb]; decide⟩
          unfold partB
          rw [this]
          rfl)
        rw [hb] at F
        clear hc HA hb
        go_wp2_with (go_at_call 96; with_reducible refine (F _).mono ?_; rintro e w' ⟨rfl, rfl⟩)
        go_ret
        exact ⟨by rw [HX.out]; rfl, rfl⟩
    · obtain rfl : k = l.length := by omega
      have hall : l.all chOk = true := by have := HA.out; rw [List.take_length] at this; exact this
      have HX := Lib.hid (show partB l = partOk l by unfold partB; rw [hall]; rfl)
      have hlt' : ¬ l.length < s.size := by rw [HSZ.out]; omega
      clear HA hlt hk hall
      by_cases e1 : l = []
      · have n1' : s.toList.isEmpty = true := by rw [HSL.out, e1]; rfl
        have n1 : s.toList = [] := by rw [HSL.out, e1]
        have HY := Lib.hid (show partB l = false by rw [HX.out, e1]; rfl)
        clear e1 HX
        go_wp2
        go_ret
        exact ⟨by rw [HY.out]; rfl, rfl⟩
      have n1 : ¬ s.toList = [] := by rw [HSL.out]; exact e1
      have n1' : s.toList.isEmpty = false := by rw [HSL.out]; cases l with | nil => exact absurd rfl e1 | cons => rfl
      by_cases e2 : l = [46]
      · have n2 : s.toList = [46] := by rw [HSL.out, e2]
        have n2' : (s.toList == [46]) = true := by rw [HSL.out, e2]; rfl
        have HY := Lib.hid (show partB l = false by rw [HX.out, e2]; rfl)
        clear e1 e2 HX
        go_wp2
        go_ret
        exact ⟨by rw [HY.out]; rfl, rfl⟩
      have n2 : ¬ s.toList = [46] := by rw [HSL.out]; exact e2
      have n2' : (s.toList == [46]) = false := by rw [HSL.out]; exact beq_false_of_ne e2
      by_cases e3 : l = [46, 46]
      · have n3 : s.toList = [46, 46] := by rw [HSL.out, e3]
        have n3' : (s.toList == [46, 46]) = true := by rw [HSL.out, e3]; rfl
        have HY := Lib.hid (show partB l = false by rw [HX.out, e3]; rfl)
        clear e1 e2 e3 HX
        go_wp2
        go_ret
        exact ⟨by rw [HY.out]; rfl, rfl⟩
      have n3 : ¬ s.toList = [46, 46] := by rw [HSL.out]; exact e3
      have n3' : (s.toList == [46, 46]) = false := by rw [HSL.out]; exact beq_false_of_ne e3
      have HY := Lib.hid (show partB l = true by rw [HX.out]; simp [partOk, e1, e2, e3])
      clear e1 e2 e3 HX
      go_wp2
      go_ret
      exact ⟨by rw [HY.out]; rfl, rfl⟩
end Go.Proofs.Ytckoapfmfpmdgaa

namespace Go.Proofs
open Go.Shelf
def Try.laysM316_ren : Go.Shelf.Ren := ⟨fun | 316 => 94 | n => n, fun | 9 => 9 | 3 => 3 | 4 => 4 | 37 => 52 | 0 => 0 | 127 => 146 | 5 => 5 | n => n, fun | n => n⟩
theorem Try.laysM316 : Go.Proofs.LaysM.n316 Try.prog Try.laysM316_ren := {
  mixed := by kernel_rfl
  f316 := Try.func94.trans (congrArg some (by kernel_rfl))
  t0 := Try.underlying0
  a0 := Try.isAgg0
  z0 := Try.sizeOf0
  v0 := Try.zeroValue0
  t3 := Try.underlying3
  a3 := Try.isAgg3
  z3 := Try.sizeOf3
  v3 := Try.zeroValue3
  t4 := Try.underlying4
  a4 := Try.isAgg4
  z4 := Try.sizeOf4
  v4 := Try.zeroValue4
  t9 := Try.underlying9
  a9 := Try.isAgg9
  z9 := Try.sizeOf9
  v9 := Try.zeroValue9
  t37 := Try.underlying52
  a37 := Try.isAgg52
  z37 := Try.sizeOf52
  v37 := Try.zeroValue52
  t127 := Try.underlying146
  a127 := Try.isAgg146
  z127 := Try.sizeOf146
  v127 := Try.zeroValue146
  t5 := Try.underlying5
  a5 := Try.isAgg5
  z5 := Try.sizeOf5
  v5 := Try.zeroValue5
  i0 := by kernel_rfl
  i3 := by kernel_rfl
  i4 := by kernel_rfl
  i5 := by kernel_rfl
  i9 := by kernel_rfl
  i37 := by kernel_rfl
  i127 := by kernel_rfl }
open Go.RowKit in
/-- internal/stringslite.Clone (what strings.Clone calls): "Clone returns a fresh copy of s.": THE SAME BYTES. Of what was there nothing has turned (a new row is laid, and frozen, where s is not empty). (LAID: no walk: one application.) -/
theorem Try.stringslite_Clone (s : ByteArray) (w : World) (hlim : s.size ≤ 281474976710656) :
    Calls Try.prog 94 #[.string s] w fun e w' => e = .returned (.string s) ∧ Below w.heap.size w w' := Any.stringslite_Clone Try.laysM316 s w hlim
def Try.lays219_ren : Go.Shelf.Ren := ⟨fun | 219 => 97 | 217 => 98 | 225 => 99 | 224 => 100 | 267 => 101 | 266 => 102 | 314 => 103 | n => n, fun | 9 => 9 | 3 => 3 | 4 => 4 | 5 => 5 | 46 => 54 | 146 => 151 | 51 => 150 | n => n, fun | 1 => 0 | n => n⟩
theorem Try.lays219 : Go.Proofs.Lays.n219 Try.prog Try.lays219_ren := {
  mixed := by kernel_rfl
  f217 := Try.func98.trans (congrArg some (by kernel_rfl))
  f219 := Try.func97.trans (congrArg some (by kernel_rfl))
  f224 := Try.func100.trans (congrArg some (by kernel_rfl))
  f225 := Try.func99.trans (congrArg some (by kernel_rfl))
  f266 := Try.func102.trans (congrArg some (by kernel_rfl))
  f267 := Try.func101.trans (congrArg some (by kernel_rfl))
  f314 := Try.func103.trans (congrArg some (by kernel_rfl))
  t3 := Try.underlying3
  a3 := Try.isAgg3
  z3 := Try.sizeOf3
  v3 := Try.zeroValue3
  t4 := Try.underlying4
  a4 := Try.isAgg4
  z4 := Try.sizeOf4
  v4 := Try.zeroValue4
  t5 := Try.underlying5
  a5 := Try.isAgg5
  z5 := Try.sizeOf5
  v5 := Try.zeroValue5
  t9 := Try.underlying9
  a9 := Try.isAgg9
  z9 := Try.sizeOf9
  v9 := Try.zeroValue9
  t46 := Try.underlying54
  a46 := Try.isAgg54
  z46 := Try.sizeOf54
  v46 := Try.zeroValue54
  t51 := Try.underlying150
  a51 := Try.isAgg150
  z51 := Try.sizeOf150
  v51 := Try.zeroValue150
  t146 := Try.underlying151
  a146 := Try.isAgg151
  z146 := Try.sizeOf151
  v146 := Try.zeroValue151
  g1 := by kernel_rfl }
open Go.RowKit Go.Lib in
/-- internal/stringslite.Index (what strings.Index calls) AT A substr OF ONE BYTE c: IT RETURNS 'Lib.indexByte s c'; the world is as it was. (LAID: no walk: one application.) -/
theorem Try.stringslite_Index_one (s : ByteArray) (c : UInt8) (w : World) :
    Calls Try.prog 97 #[.string s, .string ⟨#[c]⟩] w fun e w' => e = .returned (.int .i64 (Lib.indexByte s.data.toList c)) ∧ w' = w := Any.stringslite_Index_one Try.lays219 s c w
end Go.Proofs

namespace Go.Proofs.Ytckoapfmfpmdgaa
open Go.ChangeShapes Go.WideShapes Go.ChangeAt Go.RowKit Go.Joins
set_option linter.unusedVariables false

/-- What cutting a text at its first stroke makes. -/
inductive CutAt (s : ByteArray) : ByteArray → ByteArray → Bool → Prop where
  | no : (∀ c ∈ s.data.toList, c.toNat ≠ 47) → CutAt s s ⟨#[]⟩ false
  | yes {a b : ByteArray} {c : UInt8} : s.data.toList = a.data.toList ++ c :: b.data.toList → (∀ d ∈ a.data.toList, d.toNat ≠ 47) → c.toNat = 47 → CutAt s a b true
theorem cut_of (s : ByteArray) : (Lib.indexByte s.data.toList 47 = -1 ∧ CutAt s s ⟨#[]⟩ false) ∨ ∃ i : Nat, Lib.indexByte s.data.toList 47 = i ∧ i < s.size ∧ CutAt s (s.extract 0 i) (s.extract (i + 1) s.size) true := by
  have hsz : s.size = s.data.toList.length := by rw [Array.length_toList]; rfl
  have hge := Lib.indexByte_ge s.data.toList 47
  by_cases h : Lib.indexByte s.data.toList 47 = -1
  · refine .inl ⟨h, .no fun c hc e => ?_⟩
    obtain ⟨k, hk⟩ := List.getElem?_of_mem hc
    have hc47 : c = 47 := UInt8.toNat_inj.1 (by rw [e]; rfl)
    exact Lib.indexByte_none h k (by rw [hk, hc47])
  · obtain ⟨i, hi⟩ : ∃ i : Nat, Lib.indexByte s.data.toList 47 = i := ⟨(Lib.indexByte s.data.toList 47).toNat, by omega⟩
    obtain ⟨h1, h2⟩ := Lib.indexByte_some hi
    have hlt : i < s.data.toList.length := (List.getElem?_eq_some_iff.1 h1).1
    refine .inr ⟨i, hi, by omega, ?_⟩
    have e1 : (s.extract 0 i).data.toList = s.data.toList.take i := by rw [Lib.extract_eq]; simp
    have e2 : (s.extract (i + 1) s.size).data.toList = s.data.toList.drop (i + 1) := by
      rw [Lib.extract_eq]
      simp only
      rw [List.take_of_length_le (by rw [List.length_drop, hsz]; exact Nat.le_refl _)]
    refine .yes (c := 47) ?_ ?_ rfl
    · rw [e1, e2]
      have h3 : s.data.toList[i] = 47 := (List.getElem?_eq_some_iff.1 h1).2
      rw [← h3, ← List.drop_eq_getElem_cons hlt, List.take_append_drop]
    · intro d hd e
      rw [e1] at hd
      obtain ⟨k, hk⟩ := List.getElem?_of_mem hd
      have hk2 : k < i := by have := (List.getElem?_eq_some_iff.1 hk).1; simp at this; omega
      rw [List.getElem?_take_of_lt hk2] at hk
      have hc47 : d = 47 := UInt8.toNat_inj.1 (by rw [e]; rfl)
      exact h2 k hk2 (by rw [hk, hc47])
abbrev CutPost (s : ByteArray) (W : World) (e : Ending) (W' : World) : Prop := ∃ a b t, e = .returned (.tuple #[.string a, .string b, .bool t]) ∧ CutAt s a b t ∧ Gw W W'
set_option maxHeartbeats 2000000 in
theorem lcut_any (s : ByteArray) (W : World) (hs : s.size ≤ 140737488351232) : Calls Try.prog 95 #[.string s, .string ⟨#[47]⟩] W (CutPost s W) := by
  have F := fun w => Try.stringslite_Index_one s 47 w
  rcases cut_of s with ⟨h, hc⟩ | ⟨i, h, hi, hc⟩
  · have HC := Lib.hid hc
    rw [h] at F
    clear hc h
    go_enter Try.func95, Try.ntmps95
    go_wp2_with (go_at_call 97; with_reducible refine (F _).mono ?_; rintro e w' ⟨rfl, rfl⟩)
    go_ret3
    exact ⟨_, _, _, rfl, HC.out, Gw.refl _⟩
  · have HC := Lib.hid hc
    rw [h] at F
    clear hc h
    have c1 : (0 : Int) ≤ ↑i := by omega
    have c2 : (↑i : Int) ≤ ↑s.size := by omega
    have c3 : (0 : Int) ≤ ↑i + 1 := by omega
    have c4 : (↑i + 1 : Int) ≤ ↑s.size := by omega
    go_enter Try.func95, Try.ntmps95
    go_wp2_with (go_at_call 97; with_reducible refine (F _).mono ?_; rintro e w' ⟨rfl, rfl⟩)
    go_region
    go_wp2
    go_ret3
    exact ⟨_, _, _, rfl, HC.out, (Gw.refl _).drew⟩
theorem cut_any (s : ByteArray) (W : World) (hs : s.size ≤ 140737488351232) : Calls Try.prog 92 #[.string s, .string ⟨#[47]⟩] W (CutPost s W) := by
  go_enter Try.func92, Try.ntmps92
  go_wp2_with (go_at_call 95; with_reducible refine (lcut_any s _ hs).mono ?_; rintro e w' ⟨a, b, t, rfl, HC, HG⟩)
  go_ret3
  exact ⟨_, _, _, rfl, HC, HG⟩
theorem cut_size {s a b : ByteArray} {t : Bool} (h : CutAt s a b t) : a.size ≤ s.size ∧ b.size ≤ s.size := by
  have sz : ∀ x : ByteArray, x.size = x.data.toList.length := fun x => by rw [Array.length_toList]; rfl
  cases h with
  | no => exact ⟨Nat.le_refl _, Nat.zero_le _⟩
  | yes h1 _ _ =>
    rw [sz a, sz b, sz s, h1]
    simp
    omega
theorem name_of {s a b : ByteArray} {t : Bool} (h : CutAt s a b t) (h8 : s.size ≤ 8) : nameB s.data.toList = (partB a.data.toList && (!t || partB b.data.toList)) := by
  have hsz : s.data.toList.length ≤ 8 := by rw [Array.length_toList]; exact h8
  cases h with
  | no h1 => rw [name_one h1, decide_eq_true hsz]; simp
  | yes h1 h2 h3 =>
    have hsz' := hsz
    rw [h1] at hsz ⊢
    rw [name_two h2 h3, decide_eq_true hsz]
    simp
theorem Below.gw {W W' : World} (h : Below W.heap.size W W') : Gw W W' := ⟨h.os, rfl, h.output, h.size, h.block⟩
theorem clone_any (s : ByteArray) (W : World) (hs : s.size ≤ 140737488351232) : Calls Try.prog 91 #[.string s] W fun e W' => e = .returned (.string s) ∧ Gw W W' := by
  have F := fun w => Try.stringslite_Clone s w (Nat.le_trans hs (by omega))
  go_enter Try.func91, Try.ntmps91
  go_wp2_with (go_at_call 94; with_reducible refine (F _).mono ?_; rintro e w' ⟨rfl, G1⟩)
  go_ret
  exact ⟨rfl, Below.gw G1⟩
end Go.Proofs.Ytckoapfmfpmdgaa

namespace Go.Proofs.Ytckoapfmfpmdgaa
open Go.ChangeShapes Go.WideShapes Go.ChangeAt Go.RowKit Go.Joins
set_option linter.unusedVariables false

theorem spl_of {s a b : ByteArray} {t : Bool} (h : CutAt s a b t) (hn : nameB s.data.toList = true) : spl s.data.toList = if t = true then (a.data.toList, b.data.toList) else ([], s.data.toList) := by
  cases h with
  | no h1 => simp [spl_one hn h1]
  | yes h1 h2 h3 =>
    rw [h1] at hn
    rw [h1, spl_two hn h2 h3]
    simp
theorem cut_self {s a b : ByteArray} (h : CutAt s a b false) : a = s := by cases h; rfl
theorem of_end {W w : World} {t : TypeId} {o : Obj} {u v x y : Value} (H : Has w W.heap.size t #[u, v]) (G : Gw (W.alloc o) w) :
    Has ((w.setCell ⟨W.heap.size, 0, none⟩ x).setCell ⟨W.heap.size, 1, none⟩ y) W.heap.size t #[x, y] ∧ Gw W ((w.setCell ⟨W.heap.size, 0, none⟩ x).setCell ⟨W.heap.size, 1, none⟩ y) :=
  ⟨(H.put 0 x).put 1 y, ((But.set _ _ 0 x).trans (But.set _ _ 1 y)).gw ((Gw.alloc W o).trans G) (Nat.le_refl _)⟩
abbrev nV (l : List UInt8) : Value := .agg #[.string (bs (spl l).1), .string (bs (spl l).2)]
set_option maxHeartbeats 2000000 in
theorem of_any (s : ByteArray) (W : World) (hs : s.size ≤ 140737488351232) : Calls Try.prog 90 #[.string s] W fun e W' => e = .returned (nV s.data.toList) ∧ Gw W W' := by
  have hn : ∀ b w, (Op.unary .not (.bool b)).run Try.prog w = .ok (.bool (!b)) w := fun _ _ => rfl
  unfold nV
  by_cases h8 : 8 < s.size
  · have hb : nameB s.data.toList = false := by
      have : ¬ s.data.toList.length ≤ 8 := by rw [Array.length_toList]; exact Nat.not_le.2 h8
      unfold nameB
      rw [decide_eq_false this]
      simp
    rw [spl_no hb]
    have h8' : (8 : Int) < s.size := by omega
    clear hb
    go_enter Try.func90, Try.ntmps90
    go_wp2
    refine bodyPost_ret (results_cell_row rfl _ _ W.heap.size _ _ _ _ rfl (heap_alloc_new W _) Try.underlying140 rfl (by kernel_rfl)) rfl ?_
    exact ⟨rfl, Gw.alloc _ _⟩
  · have h8' : decide ((8 : Int) < s.size) = false := decide_eq_false (by omega)
    have H8 := Lib.hid (show s.size ≤ 8 by omega)
    have CU := fun w => cut_any s w hs
    clear h8
    go_enter Try.func90, Try.ntmps90
    go_upto_region 4 with (go_at_call 92; with_reducible refine (CU _).mono ?_; rintro e w' ⟨a, b, t, rfl, hc, G1⟩)
    have HB := (Has.new W 140 #[.string ⟨#[]⟩, .string ⟨#[]⟩]).on G1
    obtain ⟨c1, f1⟩ := box1 HB
    obtain ⟨c0, f0⟩ := box0 HB
    have HN := Lib.hid (name_of hc H8.out)
    have HS := Lib.hid (spl_of hc)
    have ha : a.size ≤ 140737488351232 := Nat.le_trans (cut_size hc).1 hs
    have hb : b.size ≤ 140737488351232 := Nat.le_trans (cut_size hc).2 hs
    have PA := fun w => part_any a w ha
    have PB := fun w => part_any b w hb
    have hcs : Hid (t = false → a = s) := fun ht => cut_self (ht ▸ hc)
    clear hc
    cases hpa : partB a.data.toList with
    | false =>
      rw [hpa] at PA HN
      clear hpa
      have HX := Lib.hid (spl_no (show nameB s.data.toList = false by rw [HN.out]; rfl))
      go_wp2_with (go_at_call 93; with_reducible refine (PA _).mono ?_; rintro e w' ⟨rfl, rfl⟩)
      obtain ⟨e1, e2⟩ := of_end (x := .string ⟨#[]⟩) (y := .string ⟨#[]⟩) HB G1
      refine bodyPost_ret (results_cell_row rfl _ _ W.heap.size _ _ _ _ rfl e1 Try.underlying140 rfl (by kernel_rfl)) rfl ?_
      exact ⟨by rw [HX.out]; rfl, e2⟩
    | true =>
      rw [hpa] at PA HN
      clear hpa
      cases t with
      | false =>
        have HX := Lib.hid (HS.out (show nameB s.data.toList = true by rw [HN.out]; rfl))
        have ea := Lib.hid (hcs.out rfl)
        go_wp2_with (go_at_call 93; with_reducible refine (PA _).mono ?_; rintro e w' ⟨rfl, rfl⟩)
        obtain ⟨e1, e2⟩ := of_end (x := .string ⟨#[]⟩) (y := .string a) HB G1
        refine bodyPost_ret (results_cell_row rfl _ _ W.heap.size _ _ _ _ rfl e1 Try.underlying140 rfl (by kernel_rfl)) rfl ?_
        exact ⟨by rw [HX.out, ea.out]; simp [bs_self]; rfl, e2⟩
      | true =>
        cases hpb : partB b.data.toList with
        | false =>
          rw [hpb] at PB HN
          clear hpb
          have HX := Lib.hid (spl_no (show nameB s.data.toList = false by rw [HN.out]; rfl))
          go_wp2_with (go_at_call 93; first | (with_reducible refine (PA _).mono ?_; rintro e w' ⟨rfl, rfl⟩) | (with_reducible refine (PB _).mono ?_; rintro e w' ⟨rfl, rfl⟩))
          obtain ⟨e1, e2⟩ := of_end (x := .string ⟨#[]⟩) (y := .string ⟨#[]⟩) HB G1
          refine bodyPost_ret (results_cell_row rfl _ _ W.heap.size _ _ _ _ rfl e1 Try.underlying140 rfl (by kernel_rfl)) rfl ?_
          exact ⟨by rw [HX.out]; rfl, e2⟩
        | true =>
          rw [hpb] at PB HN
          clear hpb
          have HX := Lib.hid (HS.out (show nameB s.data.toList = true by rw [HN.out]; rfl))
          go_wp2_with (go_at_call 93; first | (with_reducible refine (PA _).mono ?_; rintro e w' ⟨rfl, rfl⟩) | (with_reducible refine (PB _).mono ?_; rintro e w' ⟨rfl, rfl⟩))
          obtain ⟨e1, e2⟩ := of_end (x := .string a) (y := .string b) HB G1
          refine bodyPost_ret (results_cell_row rfl _ _ W.heap.size _ _ _ _ rfl e1 Try.underlying140 rfl (by kernel_rfl)) rfl ?_
          exact ⟨by rw [HX.out]; simp [bs_self], e2⟩
end Go.Proofs.Ytckoapfmfpmdgaa
