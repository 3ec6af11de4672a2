/-
  Parts of the proof, joined: FileTc, GenO, FileU, TreeY.
-/
import Derived.Test.YtckoapfmfpmdgaaMp21
import Derived.Test.YtckoapfmfpmdgaaMp25
import Derived.Test.YtckoapfmfpmdgaaMp01
import Derived.Test.YtckoapfmfpmdgaaMp15
import Derived.Test.YtckoapfmfpmdgaaMp14
import Derived.Test.YtckoapfmfpmdgaaMp02

namespace Go.Proofs.Ytckoapfmfpmdgaa
open Go.ChangeShapes Go.WideShapes Go.ChangeAt Go.RowKit Go.Joins
set_option linter.unusedVariables false
set_option linter.unusedSimpArgs false

section
variable {T : TP} (C : TreeC T) {F : Nat → Prop} {W : World} {v : Value} {s : Fs}
include C
theorem c_unlink (hT : FTT T F W v s) (ok : FOk s) (p : ByteArray) (hp : p.size ≤ 140737488351232) : Calls Try.prog 39 #[v, .string p] W fun e W' => e = .returned (.int .u16 (nameF s 33 p.data.toList []).1) ∧ KpF (FTT T) F v (nameF s 33 p.data.toList []).2 W W' := by
  obtain ⟨g, a, fb, ob, db, Ft, c, rfl, h, R⟩ := hT.open_
  have t := R.tok ok
  have e0 : nameF s 33 p.data.toList [] = ((dropT s.t p.data.toList false).1, { s with t := (dropT s.t p.data.toList false).2 }) := by unfold nameF; rw [if_pos rfl]
  rw [e0]
  have R1 := R.tree (drop_sub2 R.idn p.data.toList false)
  rw [← R.t] at R1 ⊢
  by_cases h0 : (dropT c.t p.data.toList false).1 = 0
  · obtain ⟨i, hi, hd, hf, hg⟩ := drop_gone (by rw [R.t]; exact ok.ok) (by rw [R.t]; exact R.idn) h0
    have hi' : i ∈ s.t.l := by rw [← R.t]; exact hi
    have hn0 := (ok.ids i hi').1
    obtain ⟨n, hn⟩ : ∃ n : Nat, i.n = (n : Int) := ⟨i.n.toNat, by omega⟩
    obtain ⟨x, hx, _⟩ := R.f n (.inl ⟨i, hi', hd, hn⟩)
    rw [h0]
    refine (zunlink_ok C h t p hp (R.bnd ok.m) h0 (hf.trans hn) hx).mono fun e w ⟨he, Ft', c', H, hc⟩ => ⟨he, H.kpf ?_⟩
    exact (R1.leave (n := n) (x := x) (fun j hj => by rw [← hn]; exact hg j hj) hx).fg hc
  · exact (zunlink_no C h t p hp h0).mono fun e w ⟨he, Ft', H⟩ => ⟨he, H.kpf R1⟩
theorem c_rename (hT : FTT T F W v s) (ok : FOk s) (p q : ByteArray) (hp : p.size ≤ 140737488351232) (hq : q.size ≤ 140737488351232) : Calls Try.prog 43 #[v, .string p, .string q] W fun e W' => e = .returned (.int .u16 (nameF s 34 p.data.toList q.data.toList).1) ∧ KpF (FTT T) F v (nameF s 34 p.data.toList q.data.toList).2 W W' := by
  obtain ⟨g, a, fb, ob, db, Ft, c, rfl, h, R⟩ := hT.open_
  have t := R.tok ok
  have e0 : nameF s 34 p.data.toList q.data.toList = ((moveT s.t p.data.toList q.data.toList).1.2, { s with t := (moveT s.t p.data.toList q.data.toList).2 }) := by unfold nameF; rw [if_neg (by decide), if_pos rfl]
  rw [e0]
  have R1 := R.tree (move_sub2 R.idn p.data.toList q.data.toList)
  rw [← R.t] at R1 ⊢
  by_cases h0 : (moveT c.t p.data.toList q.data.toList).1.2 = 0
  · rcases move_gone (by rw [R.t]; exact ok.ok) (by rw [R.t]; exact R.idn) h0 with h1 | ⟨i, hi, hd, hf, hg⟩
    · rw [h0]
      exact (zrename_free C h t p hp q hq h0 h1).mono fun e w ⟨he, Ft', H⟩ => ⟨he, H.kpf R1⟩
    · have hi' : i ∈ s.t.l := by rw [← R.t]; exact hi
      have hn0 := (ok.ids i hi').1
      obtain ⟨n, hn⟩ : ∃ n : Nat, i.n = (n : Int) := ⟨i.n.toNat, by omega⟩
      obtain ⟨x, hx, _⟩ := R.f n (.inl ⟨i, hi', hd, hn⟩)
      rw [h0]
      refine (zrename_ok C h t p hp q hq (R.bnd ok.m) h0 (hf.trans hn) hx).mono fun e w ⟨he, Ft', c', H, hc⟩ => ⟨he, H.kpf ?_⟩
      exact (R1.leave (n := n) (x := x) (fun j hj => by rw [← hn]; exact hg j hj) hx).fg hc
  · exact (zrename_no C h t p hp q hq h0).mono fun e w ⟨he, Ft', H⟩ => ⟨he, H.kpf R1⟩
theorem c_mkdir (hT : FTT T F W v s) (ok : FOk s) (few : Few s) (p : ByteArray) (hp : p.size ≤ 140737488351232) : Calls Try.prog 68 #[v, .string p] W fun e W' => e = .returned (.int .u16 (nameF s 35 p.data.toList []).1) ∧ KpF (FTT T) F v (nameF s 35 p.data.toList []).2 W W' := by
  obtain ⟨g, a, fb, ob, db, Ft, c, rfl, h, R⟩ := hT.open_
  have t := R.tok ok
  have e0 : nameF s 35 p.data.toList [] = ((makeT s.t p.data.toList true).1.2, { s with t := (makeT s.t p.data.toList true).2, d := if (makeT s.t p.data.toList true).1.2 = 0 then padD s.d (makeT s.t p.data.toList true).1.1 else s.d }) := by unfold nameF; rw [if_neg (by decide), if_neg (by decide), if_pos rfl]
  rw [e0]
  have R1 : Rel { c with t := (makeT s.t p.data.toList true).2 } { s with t := (makeT s.t p.data.toList true).2, d := if (makeT s.t p.data.toList true).1.2 = 0 then padD s.d (makeT s.t p.data.toList true).1.1 else s.d } := by
    rcases make_cases (t := s.t) p.data.toList true with ⟨h1, h2⟩ | ⟨h1, h2, h3⟩
    · rw [if_neg h1, h2]
      exact R.tree (Sub2.refl R.idn)
    · rw [h1, h2, if_pos rfl]
      exact R.mkd ok few.nx
  have M := zmkdir_any C h t p hp
  rw [R.t] at M
  exact M.mono fun e w ⟨he, Ft', H⟩ => ⟨he, H.kpf R1⟩
theorem c_rmdir (hT : FTT T F W v s) (ok : FOk s) (p : ByteArray) (hp : p.size ≤ 140737488351232) : Calls Try.prog 69 #[v, .string p] W fun e W' => e = .returned (.int .u16 (nameF s 36 p.data.toList []).1) ∧ KpF (FTT T) F v (nameF s 36 p.data.toList []).2 W W' := by
  obtain ⟨g, a, fb, ob, db, Ft, c, rfl, h, R⟩ := hT.open_
  have t := R.tok ok
  have e0 : nameF s 36 p.data.toList [] = ((dropT s.t p.data.toList true).1, { s with t := (dropT s.t p.data.toList true).2 }) := by unfold nameF; rw [if_neg (by decide), if_neg (by decide), if_neg (by decide), if_pos rfl]
  rw [e0]
  have R1 := R.tree (drop_sub2 R.idn p.data.toList true)
  rw [← R.t] at R1 ⊢
  exact (zrmdir_any C h t p hp).mono fun e w ⟨he, Ft', H⟩ => ⟨he, H.kpf R1⟩
theorem c_list (hT : FTT T F W v s) (ok : FOk s) (p : ByteArray) (hp : p.size ≤ 140737488351232) : Calls Try.prog 70 #[v, .string p] W fun e W' => e = .returned (.int .u16 (nameF s 37 p.data.toList []).1) ∧ KpF (FTT T) F v (nameF s 37 p.data.toList []).2 W W' := by
  obtain ⟨g, a, fb, ob, db, Ft, c, rfl, h, R⟩ := hT.open_
  have t := R.tok ok
  have e0 : nameF s 37 p.data.toList [] = (manyT s.t.l p.data.toList, s) := by unfold nameF; rw [if_neg (by decide), if_neg (by decide), if_neg (by decide), if_neg (by decide), if_pos rfl]
  rw [e0]
  have M := zlist_any C h t p hp
  rw [R.t] at M
  exact M.mono fun e w ⟨he, Ft', H⟩ => ⟨he, H.kpf R⟩
theorem c_data (hT : FTT T F W v s) (ok : FOk s) (p : ByteArray) (hp : p.size ≤ 140737488351232) : Calls Try.prog 38 #[v, .string p] W fun e W' => BnP (FTT T) F v W (bytesF s p.data.toList) s e W' := by
  obtain ⟨g, a, fb, ob, db, Ft, c, rfl, h, R⟩ := hT.open_
  have t := R.tok ok
  by_cases h0 : (findT s.t.l p.data.toList).2.2 = 0
  · obtain ⟨i, hk, he1⟩ := find_item h0
    by_cases h1 : (findT s.t.l p.data.toList).2.1 = true
    · have e0 : bytesF s p.data.toList = ([], 65301) := by unfold bytesF; rw [if_neg (fun q => q h0), if_pos h1]
      rw [e0]
      refine (zdata_dir C h t p hp (by rw [R.t]; exact h0) (by rw [R.t]; exact h1)).mono fun e w ⟨he, Ft', H⟩ => ?_
      exact ⟨_, _, he, H.ch, ⟨g, a, fb, ob, db, Ft', c, rfl, H.base, R, rfl⟩, H.own, btf_nil _ _ _⟩
    · have h1' : (findT s.t.l p.data.toList).2.1 = false := by simpa using h1
      have e0 : bytesF s p.data.toList = (s.d[(findT s.t.l p.data.toList).1.toNat]?.getD [], 0) := by unfold bytesF; rw [if_neg (fun q => q h0), if_neg h1]
      rw [e0]
      have hd : i.d = false := by rw [he1] at h1'; exact h1'
      have hn0 := (ok.ids i (look_mem hk)).1
      obtain ⟨n, hn⟩ : ∃ n : Nat, i.n = (n : Int) := ⟨i.n.toNat, by omega⟩
      obtain ⟨x, hx, hxb, hxn⟩ := R.f n (.inl ⟨i, look_mem hk, hd, hn⟩)
      have en : (findT s.t.l p.data.toList).1 = (n : Int) := by rw [he1]; exact hn
      have hx8 := (R.fk _ _ hx).2.2
      refine (zdata_ok C h t p hp (by rw [R.t]; exact h0) (by rw [R.t]; exact h1') (n := n) (by rw [R.t]; exact en) ((R.bnd ok.m).f _ _ hx) hx hx8).mono fun e w ⟨y, he, Ft', H, w1, _, hs, hF, hN⟩ => ?_
      rw [en, Int.toNat_natCast]
      have hl : x.b.take x.n = s.d[n]?.getD [] := by
        rw [hxb, hxn]
        unfold pad8
        rw [List.take_left]
      rw [hl] at hN
      exact ⟨y, _, he, H.ch, ⟨g, a, fb, ob, db, Ft', c, rfl, H.base, R, rfl⟩, H.own, btf_of hN hs hF⟩
  · have e0 : bytesF s p.data.toList = ([], (findT s.t.l p.data.toList).2.2) := by unfold bytesF; rw [if_pos h0]
    rw [e0]
    refine (zdata_no C h t p hp (by rw [R.t]; exact h0)).mono fun e w ⟨he, Ft', H⟩ => ?_
    rw [R.t] at he
    exact ⟨_, _, he, H.ch, ⟨g, a, fb, ob, db, Ft', c, rfl, H.base, R, rfl⟩, H.own, btf_nil _ _ _⟩
theorem c_open (hT : FTT T F W v s) (ok : FOk s) (few : Few s) (p : ByteArray) (hp : p.size ≤ 140737488351232) : Calls Try.prog 33 #[v, .string p] W fun e W' => e = .returned (.int .u16 (openF s p.data.toList).1) ∧ KpF (FTT T) F v (openF s p.data.toList).2 W W' := by
  obtain ⟨g, a, fb, ob, db, Ft, c, rfl, h, R⟩ := hT.open_
  have t := R.tok ok
  have B := R.bnd ok.m
  have fd4 : ∀ {k : Nat}, c.d k = none → ofI s k = none := fun hk => by rw [← R.d]; exact hk
  have fdn : ∀ {k : Nat}, c.d k ≠ none → ofI s k ≠ none := fun hk => by rw [← R.d]; exact hk
  by_cases h0 : mrF c.t p.data.toList = 0
  · have h0s : mrF s.t p.data.toList = 0 := by rw [← R.t]; exact h0
    obtain ⟨hnm, hab, hh⟩ := open_yes h0s
    have hnxo : c.nx < 1000001 := by rw [R.nx]; have := few.os; omega
    rcases hh with ⟨i, hk, hd, hf⟩ | ⟨hf, hm⟩
    · -- the file is there
      have hn0 := (ok.ids i (look_mem hk)).1
      obtain ⟨n, hn⟩ : ∃ n : Nat, i.n = (n : Int) := ⟨i.n.toNat, by omega⟩
      have hin : inT s n := ⟨i, look_mem hk, hd, hn⟩
      obtain ⟨x, hx, _⟩ := R.f n (.inl hin)
      have RC : ∀ w1 Ft1, Fi T W F Ft1 w1 g a fb ob db c → Calls Try.prog 75 #[.pointer (some ⟨g, 0, none⟩), .string p] w1 fun e w' => e = .returned (.tuple #[.int .i64 (n : Int), .int .u16 0]) ∧ ∃ Ft', Fi T W F Ft' w' g a fb ob db c := fun w1 Ft1 h1 => by
        have := zreach_found C h1 t p hp (by rw [R.t, hf])
        rw [R.t, hf] at this
        simp only at this
        rw [hn] at this
        exact this
      refine (zopen_any C h t p hp h0 (c2 := c) (fl := n) B hnxo (fun _ => rfl) RC).mono fun e w hpost => ?_
      rcases hpost with ⟨hall, he, Ft', H⟩ | ⟨k, hk4, hkn, hkb, hq⟩
      · have ef := zfree_no ok.m (fun j hj => fdn (hall j hj))
        have e0 : openF s p.data.toList = (65304, s) := by
          unfold openF
          rw [if_pos hnm, if_neg (by rw [hf]; simp), if_neg (by rw [hab]; simp), if_pos ef]
        rw [e0]
        exact ⟨he, H.kpf R⟩
      · have ef := zfree_is ok.m hk4 (fd4 hkn) (fun j hj => fdn (hkb j hj))
        rcases hq with ⟨h1, _⟩ | ⟨_, he, Ft', H⟩
        · exact absurd rfl h1
        · have e0 : openF s p.data.toList = ((k : Int), { s with fd := s.fd.set k s.o.length, o := s.o ++ [(n, 0)] }) := by
            unfold openF
            rw [if_pos hnm, if_neg (by rw [hf]; simp), if_neg (by rw [hab]; simp), ef, if_neg (by omega), if_pos (by rw [hf]), hf]
            simp only
            rw [hn, Int.toNat_natCast, Int.toNat_natCast]
          rw [e0]
          exact ⟨he, H.kpf (R.opn ok.m hk4 hin (by have := (R.fk _ _ hx).1; exact this) few.os)⟩
    · rcases hm with ⟨h8, hm⟩ | hm
      · -- no room
        have RC : ∀ w1 Ft1, Fi T W F Ft1 w1 g a fb ob db c → Calls Try.prog 75 #[.pointer (some ⟨g, 0, none⟩), .string p] w1 fun e w' => e = .returned (.tuple #[.int .i64 (-1), .int .u16 65308]) ∧ ∃ Ft', Fi T W F Ft' w' g a fb ob db { c with t := s.t } := fun w1 Ft1 h1 => by
          have := zreach_full C h1 t p hp (by rw [R.t]; exact hf) (by rw [R.t, hm]; simp)
          rw [R.t, hm] at this
          exact this
        refine (zopen_any C h t p hp h0 (c2 := { c with t := s.t }) (fl := 0) ⟨B.f, B.o, B.d⟩ hnxo (fun q => by cases q) RC).mono fun e w hpost => ?_
        rcases hpost with ⟨hall, he, Ft', H⟩ | ⟨k, hk4, hkn, hkb, hq⟩
        · have ef := zfree_no ok.m (fun j hj => fdn (hall j hj))
          have e0 : openF s p.data.toList = (65304, s) := by
            unfold openF
            rw [if_pos hnm, if_neg (fun q => hf q.1), if_neg (by rw [hab]; simp), if_pos ef]
          rw [e0]
          exact ⟨he, H.kpf R⟩
        · have ef := zfree_is ok.m hk4 (fd4 hkn) (fun j hj => fdn (hkb j hj))
          rcases hq with ⟨_, he, Ft', H⟩ | ⟨h1, _⟩
          · have e0 : openF s p.data.toList = (65308, { s with t := s.t }) := by
              unfold openF
              rw [if_pos hnm, if_neg (fun q => hf q.1), if_neg (by rw [hab]; simp), ef, if_neg (by omega), if_neg hf, hm]
              simp
            rw [e0]
            exact ⟨he, H.kpf (R.tree (Sub2.refl R.idn))⟩
          · cases h1
      · -- a new file
        obtain ⟨n, hn⟩ : ∃ n : Nat, s.t.nx = (n : Int) := ⟨s.t.nx.toNat, by have := ok.nx; omega⟩
        have hn6 : n < 1000001 := by have := few.nx; omega
        have RC : ∀ w1 Ft1, Fi T W F Ft1 w1 g a fb ob db c → Calls Try.prog 75 #[.pointer (some ⟨g, 0, none⟩), .string p] w1 fun e w' => e = .returned (.tuple #[.int .i64 (n : Int), .int .u16 0]) ∧ ∃ Ft', Fi T W F Ft' w' g a fb ob db { c with t := ⟨s.t.l ++ [⟨p.data.toList, false, s.t.nx⟩], s.t.nx + 1⟩, f := setM c.f n (some ⟨List.replicate 8 0, 0, false⟩) } := fun w1 Ft1 h1 => by
          have := zreach_made C h1 t B p hp (by rw [R.t]; exact hf) (k := n) (by rw [R.t, hm, hn]) hn6
          rw [R.t, hm] at this
          exact this
        have R1 := R.mkf ok (p := p.data.toList) few.nx
        have e3 : s.t.nx.toNat = n := by rw [hn, Int.toNat_natCast]
        rw [e3] at R1
        have B1 : Bnd { c with t := ⟨s.t.l ++ [⟨p.data.toList, false, s.t.nx⟩], s.t.nx + 1⟩, f := setM c.f n (some ⟨List.replicate 8 0, 0, false⟩) } := ⟨fun m x hx => (by rcases setM_some hx with ⟨e, _⟩ | ⟨_, hx⟩; rw [e]; exact hn6; exact B.f m x hx), B.o, B.d⟩
        refine (zopen_any C h t p hp h0 (fl := n) B1 hnxo (fun _ => rfl) RC).mono fun e w hpost => ?_
        rcases hpost with ⟨hall, he, Ft', H⟩ | ⟨k, hk4, hkn, hkb, hq⟩
        · have ef := zfree_no ok.m (fun j hj => fdn (hall j hj))
          have e0 : openF s p.data.toList = (65304, s) := by
            unfold openF
            rw [if_pos hnm, if_neg (fun q => hf q.1), if_neg (by rw [hab]; simp), if_pos ef]
          rw [e0]
          exact ⟨he, H.kpf R⟩
        · have ef := zfree_is ok.m hk4 (fd4 hkn) (fun j hj => fdn (hkb j hj))
          rcases hq with ⟨h1, _⟩ | ⟨_, he, Ft', H⟩
          · exact absurd rfl h1
          · have e0 : openF s p.data.toList = ((k : Int), { t := ⟨s.t.l ++ [⟨p.data.toList, false, s.t.nx⟩], s.t.nx + 1⟩, d := padD s.d s.t.nx, fd := s.fd.set k s.o.length, o := s.o ++ [(n, 0)] }) := by
              unfold openF
              rw [if_pos hnm, if_neg (fun q => hf q.1), if_neg (by rw [hab]; simp), ef, if_neg (by omega), if_neg hf, hm]
              simp only
              rw [if_neg (by simp), e3, Int.toNat_natCast]
            rw [e0]
            have m1 : FOm { s with t := ⟨s.t.l ++ [⟨p.data.toList, false, s.t.nx⟩], s.t.nx + 1⟩, d := padD s.d s.t.nx } := (ok.m.pad s.t.nx).tset _
            have hin : inT { s with t := ⟨s.t.l ++ [⟨p.data.toList, false, s.t.nx⟩], s.t.nx + 1⟩, d := padD s.d s.t.nx } n := ⟨⟨p.data.toList, false, s.t.nx⟩, List.mem_append_right _ (List.mem_singleton_self _), rfl, hn⟩
            exact ⟨he, H.kpf (R1.opn m1 hk4 hin (by show (n : Int) < s.t.nx + 1; omega) few.os)⟩
  · have h0s : mrF s.t p.data.toList ≠ 0 := by rw [← R.t]; exact h0
    have M := zopen_no C h t p hp h0
    rw [R.t] at M
    rw [open_no h0s]
    exact M.mono fun e w ⟨he, Ft', H⟩ => ⟨he, H.kpf R⟩
end
theorem files_c : ∃ T : FP, FilesC T := by
  obtain ⟨T, C⟩ := tree_c
  refine ⟨FTT T, ?_⟩
  constructor
  · rintro F W v s k hT hk
    obtain ⟨g, a, fb, ob, db, Ft, c, rfl, h, R, rfl⟩ := hT
    exact h.lt C hk
  · rintro F W W' v s hT he
    obtain ⟨g, a, fb, ob, db, Ft, c, rfl, h, R, rfl⟩ := hT
    exact ⟨g, a, fb, ob, db, Ft, c, rfl, ⟨h.hd.same (he g (.inl rfl)), C.same h.tr (fun k hk => he k (.inr (.inr (.inr (.inr hk))))), h.fm.same (he fb (.inr (.inl rfl))), h.om.same (he ob (.inr (.inr (.inl rfl)))), h.dm.same (he db (.inr (.inr (.inr (.inl rfl))))), h.l8, h.sep, ⟨rfl, rfl, Nat.le_refl _, fun _ _ _ => rfl⟩, fun k hk => .inl hk⟩, R, rfl⟩
  · intro W x y es data hx hy hs hl hd
    exact znew_any C hx hy hs hl hd
  · intro F W v s p hT ok few hp
    exact c_open C hT ok few p hp
  · intro F W v s fd hT ok few hf
    exact c_close C hT ok fd hf
  · intro F W v s fd y lb hT ok few hf hy hl
    exact c_write C hT ok fd y lb hf hy
  · intro F W v s fd n hT ok few hf hn
    exact c_seek C hT ok fd n hf
  · intro F W v s fd n hT ok few hf hn
    exact c_trunc C hT ok fd n hf
  · intro F W v s fd hT ok few hf
    exact c_twin C hT ok fd hf
  · intro F W v s p hT ok few hp
    exact c_unlink C hT ok p hp
  · intro F W v s p q hT ok few hp hq
    exact c_rename C hT ok p q hp hq
  · intro F W v s p hT ok few hp
    exact c_mkdir C hT ok few p hp
  · intro F W v s p hT ok few hp
    exact c_rmdir C hT ok p hp
  · intro F W v s p hT ok few hp
    exact c_list C hT ok p hp
  · intro F W v s fd hT ok hf
    exact c_size C hT ok fd hf
  · intro F W v s fd n hT ok hf hn
    exact c_read C hT ok fd n hf hn
  · intro F W v s p hT ok hp
    exact c_data C hT ok p hp
end Go.Proofs.Ytckoapfmfpmdgaa

namespace Go.Proofs.Ytckoapfmfpmdgaa
open Go.ChangeShapes Go.WideShapes Go.ChangeAt Go.RowKit Go.Joins
set_option linter.unusedVariables false

section
variable {H : Type} {enc : TypeId × Value → H} {W : World}
theorem spotted {g off : Nat} {s : Nat} {v : Value} (h : W.cell? ⟨g, off, some s⟩ = some v) : False := by
  unfold World.cell? at h
  split at h
  · simp at h
  · cases h
/-- A slice of elements of so many cells, each of which is a z as Q says. -/
theorem slice_open {α : Type} {t e : TypeId} {sz : Nat} (Q : α → List Value → Prop) (ht : Try.prog.underlying t = some (.slice e)) (hc : Try.prog.cellsOf e = sz) (h0 : 0 < sz)
    (hel : ∀ (n : Nat) (cs : List Value) (x : DataW H × List MemPlace), DataW.trod enc Try.prog W 0 (fun _ => true) true n e cs = some x → cs.length = sz ∧ ∃ z, Q z cs)
    {n : Nat} {v : Value} {x : DataW H × List MemPlace} (h : DataW.trod enc Try.prog W 0 (fun _ => true) true n t [v] = some x) :
    ∃ (A : Option Addr) (L : List α) (cap : Nat), v = .slice A L.length cap ∧ L.length ≤ cap ∧ cap ≤ 9223372036854775807 ∧ (A = none → cap = 0) ∧
      ∀ (i : Nat) (z : α), L[i]? = some z → ∃ cs, Q z cs ∧ cs.length = sz ∧ ∃ g off, A = some ⟨g, off, none⟩ ∧ g < W.heap.size ∧ ∀ (j : Nat) (c : Value), cs[j]? = some c → W.cell? ⟨g, off + i * sz + j, none⟩ = some c := by
  rcases Deep.open_slice ht h with ⟨h1, _⟩ | ⟨a, len, cap, m, n, D, Pl, h1, _, hle, hm, hmm, _, hi⟩
  · injection h1 with h1 _
    subst h1
    exact ⟨none, [], 0, rfl, Nat.le_refl _, Nat.zero_le _, fun _ => rfl, fun i z hz => by simp at hz⟩
  · injection h1 with h1 _
    subst h1
    rw [if_pos rfl] at hmm
    subst hmm
    unfold maxLen at hm
    have each : ∀ i : Nat, i < len → ∃ z cs, Q z cs ∧ cs.length = sz ∧ ∀ (j : Nat) (c : Value), cs[j]? = some c → W.cell? ((a.add (i * sz)).add j) = some c := fun i him => by
      obtain ⟨cs', hcs, ht'⟩ := hi i (by omega)
      obtain ⟨hl, z, hz⟩ := hel _ _ _ ht'
      rw [hc] at hcs
      have k := (World.cells?_some hcs).2.2
      refine ⟨z, cs', hz, hl, fun j c hj => ?_⟩
      have hj' := (List.getElem?_eq_some_iff.1 hj).1
      have := k j (by omega)
      rw [this]
      exact hj
    obtain ⟨L, hL, hLs⟩ : ∃ L : List α, L.length = len ∧ ∀ (i : Nat) (z : α), L[i]? = some z → ∃ cs, Q z cs ∧ cs.length = sz ∧ ∀ (j : Nat) (c : Value), cs[j]? = some c → W.cell? ((a.add (i * sz)).add j) = some c := by
      have key : ∀ k, k ≤ len → ∃ L : List α, L.length = k ∧ ∀ (i : Nat) (z : α), L[i]? = some z → ∃ cs, Q z cs ∧ cs.length = sz ∧ ∀ (j : Nat) (c : Value), cs[j]? = some c → W.cell? ((a.add (i * sz)).add j) = some c := by
        intro k
        induction k with
        | zero => intro _; exact ⟨[], rfl, fun i r hr => by simp at hr⟩
        | succ k ih =>
          intro hk
          obtain ⟨rs, h1, h2⟩ := ih (by omega)
          obtain ⟨r, h3⟩ := each k (by omega)
          refine ⟨rs ++ [r], by simp [h1], fun i q hq => ?_⟩
          by_cases hlt : i < rs.length
          · rw [List.getElem?_append_left hlt] at hq; exact h2 i q hq
          · rw [List.getElem?_append_right (by omega)] at hq
            have : i - rs.length = 0 := by
              have := (List.getElem?_eq_some_iff.1 hq).1
              simp at this; omega
            rw [this] at hq
            simp at hq
            subst hq
            obtain rfl : i = k := by omega
            exact h3
      exact key len (Nat.le_refl _)
    subst hL
    refine ⟨some a, L, _, rfl, hle, by omega, fun e => (by cases e), fun i z hz => ?_⟩
    obtain ⟨cs, hQ, hl, hcell⟩ := hLs i z hz
    refine ⟨cs, hQ, hl, ?_⟩
    obtain ⟨g, off, spot⟩ := a
    obtain ⟨c0, hc0⟩ : ∃ c0, cs[0]? = some c0 := ⟨_, List.getElem?_eq_getElem (by omega)⟩
    cases spot with
    | some s =>
      exfalso
      have hi0 := (List.getElem?_eq_some_iff.1 hz).1
      obtain ⟨z0, hz0⟩ : ∃ z0, L[0]? = some z0 := ⟨_, List.getElem?_eq_getElem (by omega)⟩
      obtain ⟨cs0, _, hl0, hc00⟩ := hLs 0 z0 hz0
      obtain ⟨d0, hd0⟩ : ∃ d0, cs0[0]? = some d0 := ⟨_, List.getElem?_eq_getElem (by omega)⟩
      have := hc00 0 d0 hd0
      rw [Nat.zero_mul] at this
      exact spotted this
    | none =>
      refine ⟨g, off, rfl, ?_, fun j c hj => ?_⟩
      · have := hcell 0 c0 hc0
        rw [add_eq, add_eq] at this
        exact World.block_lt_of_cell? W _ this
      · have := hcell j c hj
        rw [add_eq, add_eq] at this
        exact this
theorem cellsByte : Try.prog.cellsOf 5 = 1 := by kernel_rfl
end
end Go.Proofs.Ytckoapfmfpmdgaa

namespace Go.Proofs.Ytckoapfmfpmdgaa
open Go.ChangeShapes Go.WideShapes Go.ChangeAt Go.RowKit Go.Joins
set_option linter.unusedVariables false
set_option linter.unusedSimpArgs false

deriving instance DecidableEq for Fs
structure Fx (T : FP) (K : Nat → Prop) (w : World) (v : Value) (s : Fs) : Prop where
  m : Fw T K w v s
  ok : FOk s
  few : Few s
section
variable {T : FP} {K : Nat → Prop} {w : World} {v : Value} {s s' : Fs} {z : Int} {l : List UInt8}
theorem Fx.on (C : FilesC T) (M : Fx T K w v s) {w' : World} (G : Gw w w') : Fx T K w' v s := ⟨M.m.on C G, M.ok, M.few⟩
theorem Fx.less (M : Fx T K w v s) {K' : Nat → Prop} (k : ∀ j, K' j → K j) : Fx T K' w v s := ⟨M.m.less k, M.ok, M.few⟩
theorem Fx.box (C : FilesC T) (M : Fx T K w v s) (o : Obj) : Fx T (fun k => K k ∨ k = w.heap.size) (w.alloc o) v s := ⟨M.m.box C o, M.ok, M.few⟩
theorem Fx.put (C : FilesC T) (M : Fx T K w v s) {g : Nat} (hg : K g) (i : Nat) (u : Value) : Fx T K (w.setCell ⟨g, i, none⟩ u) v s := ⟨M.m.put C hg i u, M.ok, M.few⟩
theorem x_open (C : FilesC T) (M : Fx T K w v s) (p : ByteArray) (a0 : p.size ≤ 140737488351232) (hh : openF s p.data.toList = (z, s')) (few : Few s') : Calls Try.prog 33 #[v, .string p] w fun e w' => e = .returned (.int .u16 z) ∧ Fx T K w' v s' ∧ Sm K w w' := by
  have h1 := f_open C M.m M.ok M.few p a0
  have h2 := M.ok.open_ p.data.toList
  rw [hh] at h1 h2
  exact h1.mono fun _ _ ⟨a, b, c⟩ => ⟨a, ⟨b, h2, few⟩, c⟩
theorem x_write (C : FilesC T) (M : Fx T K w v s) (fd : Nat) (y : Value) (lb : List UInt8) (a0 : fd ≤ 65535) (a1 : BtA w y lb) (a2 : lb.length ≤ 4611686018427387904) (hh : writeF s fd lb = (z, s')) (few : Few s') : Calls Try.prog 37 #[v, .int .u16 (fd : Int), y] w fun e w' => e = .returned (.int .u16 z) ∧ Fx T K w' v s' ∧ Sm K w w' := by
  have h1 := f_write C M.m M.ok M.few fd y lb a0 a1 a2
  have h2 := M.ok.write fd lb
  rw [hh] at h1 h2
  exact h1.mono fun _ _ ⟨a, b, c⟩ => ⟨a, ⟨b, h2, few⟩, c⟩
theorem x_seek (C : FilesC T) (M : Fx T K w v s) (fd a : Nat) (a0 : fd ≤ 65535) (a1 : a ≤ 65535) (hh : seekF s fd a = (z, s')) (few : Few s') : Calls Try.prog 36 #[v, .int .u16 (fd : Int), .int .u16 (a : Int)] w fun e w' => e = .returned (.int .u16 z) ∧ Fx T K w' v s' ∧ Sm K w w' := by
  have h1 := f_seek C M.m M.ok M.few fd a a0 a1
  have h2 := M.ok.seek fd a
  rw [hh] at h1 h2
  exact h1.mono fun _ _ ⟨a, b, c⟩ => ⟨a, ⟨b, h2, few⟩, c⟩
theorem x_size (C : FilesC T) (M : Fx T K w v s) (fd : Nat) (a0 : fd ≤ 65535) (hh : sizeF s fd = z) : Calls Try.prog 40 #[v, .int .u16 (fd : Int)] w fun e w' => e = .returned (.int .u16 z) ∧ Fx T K w' v s ∧ Sm K w w' := by
  have h1 := f_size C M.m M.ok fd a0
  rw [hh] at h1
  exact h1.mono fun _ _ ⟨a, b, c⟩ => ⟨a, ⟨b, M.ok, M.few⟩, c⟩
theorem x_read (C : FilesC T) (M : Fx T K w v s) (fd n : Nat) (a0 : fd ≤ 65535) (a1 : n ≤ 65535) (hh : readF s fd n = ((l, z), s')) (few : Few s') : Calls Try.prog 35 #[v, .int .u16 (fd : Int), .int .u16 (n : Int)] w fun e w' => ∃ x, e = .returned (.tuple #[x, .int .u16 z]) ∧ Fx T (fun j => K j ∨ Bk x j) w' v s' ∧ Sm K w w' ∧ BtA w' x l := by
  have h1 := f_read C M.m M.ok fd n a0 a1
  have h2 := M.ok.read fd n
  rw [hh] at h1 h2
  exact h1.mono fun _ _ ⟨x, a, b, c, d⟩ => ⟨x, a, ⟨b, h2, few⟩, c, d⟩
theorem newF_ok1 {es : List (List UInt8 × Bool)} {data : List (List UInt8)} (h : newF es data = .inr s) : FOk s ∧ Few s ∧ s.t.nx ≤ 8 ∧ s.o = [] := by
  unfold newF at h
  cases ht : newT es with
  | none => rw [ht] at h; cases h
  | some t =>
    rw [ht] at h
    simp only at h
    cases hf : fillTo es data es.length with
    | none => rw [hf] at h; cases h
    | some x =>
      obtain ⟨a, k⟩ := x
      rw [hf] at h
      simp only at h
      split at h
      · cases h
        obtain ⟨h1, h2, h3, h4⟩ := new_ok1 ht
        obtain ⟨g1, g2, g3, g4⟩ := fill_len hf
        refine ⟨FOk.start h1 (by omega) (by omega) (new_ids ht) g4, ⟨by show t.nx ≤ _; omega, Nat.zero_le _⟩, by show t.nx ≤ _; omega, rfl⟩
      · cases h
theorem x_new (C : FilesC T) {x y : Value} {es : List (List UInt8 × Bool)} {data : List (List UInt8)} (hx : EntAt w x es) (hy : DatN w y data) (a0 : ∀ e ∈ es, e.1.length ≤ 140737488351232) (a1 : es.length ≤ 4611686018427387904) (a2 : data.length ≤ 4611686018427387904) (hn : newF es data = .inr s) :
    Calls Try.prog 30 #[x, y] w fun e w' => ∃ a, e = .returned (.tuple #[.pointer (some a), .int .i64 0]) ∧ Fx T (fun k => k < w.heap.size) w' (.pointer (some a)) s ∧ Gw w w' := by
  obtain ⟨h1, h2, _⟩ := newF_ok1 hn
  exact (f_new C hx hy a0 a1 a2 hn).mono fun _ _ ⟨a, b, c, d⟩ => ⟨a, b, ⟨c, h1, h2⟩, d⟩
end
theorem bta_new (w : World) (l : List UInt8) (h : l.length ≤ 9223372036854775807) : BtA (w.alloc (.cells (byV l).toArray 5)) (.slice (some ⟨w.heap.size, 0, none⟩) l.length l.length) l := by
  refine ⟨_, _, rfl, Nat.le_refl _, h, fun j c hj => ⟨_, 0, rfl, ?_⟩⟩
  rw [Nat.zero_add, cell_of_row _ _ j _ _ _ (heap_alloc_new w _)]
  have := byV_at hj
  simpa using this
theorem gw_sm {W w w' : World} (G : Gw W w) (S : Sm (fun k => k < W.heap.size) w w') : Gw W w' := ⟨S.os.trans G.os, rfl, S.output.trans G.output, Nat.le_trans G.size S.size, fun k hk => (S.block k hk).trans (G.block k hk)⟩
def aw0 : Fs := ⟨⟨[], 0⟩, [], [], [-1, -1, -1, -1]⟩
def aw1 : Fs := ⟨⟨[⟨[97], false, 0⟩], 1⟩, [[]], [(0, 0)], [0, -1, -1, -1]⟩
def aw2 : Fs := ⟨⟨[⟨[97], false, 0⟩], 1⟩, [[1, 2, 3]], [(0, 3)], [0, -1, -1, -1]⟩
def aw3 : Fs := ⟨⟨[⟨[97], false, 0⟩], 1⟩, [[1, 2, 3]], [(0, 1)], [0, -1, -1, -1]⟩
set_option maxRecDepth 100000 in
set_option maxHeartbeats 8000000 in
theorem awake_files {T : FP} (C : FilesC T) (W : World) : Calls Try.prog 28 #[] W fun e W' => e = .returned (.bool true) ∧ Gw W W' := by
  have N0 := x_new (w := W) C (EntAt.nil W) (DatN.nil W) (by simp) (by decide) (by decide) (s := aw0) (by decide +kernel)
  have b8 : ∀ w : World, BtA (w.alloc (.cells #[.int .u8 1, .int .u8 2, .int .u8 3] 5)) (.slice (some ⟨w.heap.size, 0, none⟩) 3 3) [1, 2, 3] := fun w => bta_new w [1, 2, 3] (by decide)
  have B8 := Lib.hid b8
  clear b8
  go_enter Try.func28, Try.ntmps28
  go_wp2_with (first
    | (go_at_call 30; with_reducible refine N0.mono ?_; rintro e w1 ⟨a, rfl, M0, G0⟩; have M0 := Lib.hid M0; have G0 := Lib.hid G0)
    | (go_at_call 33; with_reducible refine (x_open C M0.out ⟨#[97]⟩ (by decide) (s' := aw1) (z := 0) (by decide +kernel) ⟨by decide, by decide⟩).mono ?_; rintro e w2 ⟨rfl, M1, S1⟩; have M1 := Lib.hid M1; have S1 := Lib.hid S1)
    | (go_at_call 37; (refine (x_write C (M1.out.on C (Gw.alloc _ (.cells #[.int .u8 1, .int .u8 2, .int .u8 3] 5))) 0 _ [1, 2, 3] (by decide) (B8.out _) (by decide) (s' := aw2) (z := 3) (by decide +kernel) ⟨by decide, by decide⟩).mono ?_; rintro e w3 ⟨rfl, M2, S2⟩; have M2 := Lib.hid M2; have S2 := Lib.hid S2))
    | (go_at_call 36; refine (x_seek C M2.out 0 1 (by decide) (by decide) (s' := aw3) (z := 1) (by decide +kernel) ⟨by decide, by decide⟩).mono ?_; rintro e w4 ⟨rfl, M3, S3⟩; have M3 := Lib.hid M3; have S3 := Lib.hid S3)
    | (go_at_call 35; refine (x_read C M3.out 0 9 (by decide) (by decide) (s' := aw2) (l := [2, 3]) (z := 2) (by decide +kernel) ⟨by decide, by decide⟩).mono ?_; rintro e w5 ⟨x, rfl, M4, S4, BX⟩; have hcv : (convert 52 9 x).run Try.prog w5 = .ok (.string ⟨#[2, 3]⟩) w5 := conv_bta BX; have M4 := Lib.hid M4; have S4 := Lib.hid S4; clear BX)
    | (go_at_call 40; refine (x_size C M4.out 7 (by decide) (z := 65289) (by decide +kernel)).mono ?_; rintro e w6 ⟨rfl, M5, S5⟩; have S5 := Lib.hid S5))
  go_ret
  exact ⟨rfl, gw_sm G0.out (S1.out.trans ((M1.out.m.sm (Gw.alloc _ _)).trans (S2.out.trans (S3.out.trans (S4.out.trans (S5.out.less fun j hj => .inl hj))))))⟩
end Go.Proofs.Ytckoapfmfpmdgaa

namespace Go.Proofs.Ytckoapfmfpmdgaa
open Go.ChangeShapes Go.WideShapes Go.ChangeAt Go.RowKit Go.Joins
set_option linter.unusedVariables false
set_option linter.unusedSimpArgs false

/-- A tree that the call has made, and a block that it has laid beside it. -/
structure Mg (T : TP) (W w : World) (v : Value) (s : St) (g : Nat) (o : Obj) : Prop where
  gw : Gw W w
  hg : w.heap[g]? = some o
  hW : W.heap.size ≤ g
  ex : ∃ F, T F w v s ∧ (∀ k, F k → W.heap.size ≤ k) ∧ ¬ F g
section
variable {T : TP} {W w : World} {v : Value} {s : St} {g : Nat} {o : Obj}
theorem Mg.lt (M : Mg T W w v s g o) : g < w.heap.size := lt_of_heap M.hg
theorem Mn.alloc (C : TreeC T) (M : Mn T W w v s) (o : Obj) : Mg T W (w.alloc o) v s w.heap.size o := by
  obtain ⟨F, h, hF⟩ := M.ex
  exact ⟨M.gw.trans (Gw.alloc _ _), heap_alloc_new w o, M.gw.size, F, C.same h (fun k hk => (Gw.alloc w o).block k (C.lt h hk)), hF, fun hk => Nat.lt_irrefl _ (C.lt h hk)⟩
theorem Mg.on (C : TreeC T) (M : Mg T W w v s g o) {w' : World} (G : Gw w w') : Mg T W w' v s g o := by
  obtain ⟨F, h, hF, hg⟩ := M.ex
  exact ⟨M.gw.trans G, (G.block g M.lt).trans M.hg, M.hW, F, C.same h (fun k hk => G.block k (C.lt h hk)), hF, hg⟩
theorem Mg.put (C : TreeC T) {cs : Array Value} {t : TypeId} (M : Mg T W w v s g (.cells cs t (0, 0))) (i : Nat) (u : Value) : Mg T W (w.setCell ⟨g, i, none⟩ u) v s g (.cells (cs.setIfInBounds i u) t (0, 0)) := by
  obtain ⟨F, h, hF, hg⟩ := M.ex
  exact ⟨(But.set g w i u).gw M.gw M.hW, heap_setCell_same w g i cs t u M.hg, M.hW, F, C.same h (fun k hk => set_other (p := ⟨g, i, none⟩) (fun e => hg (by rw [show k = g from e] at hk; exact hk))), hF, hg⟩
theorem Mg.next (M : Mg T W w v s g o) {F : Nat → Prop} (hF : ∀ k, F k → W.heap.size ≤ k) (hg : ¬ F g) {w' : World} {s' : St} (k : Kp T F v s' w w') : Mg T W w' v s' g o := by
  obtain ⟨F', h1, h2⟩ := k.ex
  have hs := M.lt
  refine ⟨⟨k.ch.os.trans M.gw.os, rfl, k.ch.output.trans M.gw.output, Nat.le_trans M.gw.size k.ch.size, fun j hj => (k.ch.block j (Nat.lt_of_lt_of_le hj M.gw.size) (fun hf => by have := hF j hf; omega)).trans (M.gw.block j hj)⟩, (k.ch.block g hs hg).trans M.hg, M.hW, F', h1, fun j hj => ?_, fun hj => ?_⟩
  · rcases h2 j hj with h | h
    · exact hF j h
    · exact Nat.le_trans M.gw.size h
  · rcases h2 g hj with h | h
    · exact hg h
    · omega
end
/-- A slice of bytes, as it lies. -/
def ByIn (W : World) (A : Option Addr) (l : List Nat) : Prop := ∀ (i z : Nat), l[i]? = some z → ∃ g off, A = some ⟨g, off, none⟩ ∧ g < W.heap.size ∧ W.cell? ⟨g, off + i, none⟩ = some (.int .u8 (z : Int)) ∧ z ≤ 255
theorem ByIn.on {W W' : World} {A : Option Addr} {l : List Nat} (h : ByIn W A l) (G : Gw W W') : ByIn W' A l := fun i z hz => by
  obtain ⟨g, off, h1, h2, h3, h4⟩ := h i z hz
  exact ⟨g, off, h1, Nat.lt_of_lt_of_le h2 G.size, G.cell h3, h4⟩
/-! ### Names of one letter -/
/-- The letter of that number. -/
def lt1 (k : Nat) : List UInt8 := [UInt8.ofNat (97 + k)]
theorem lt1_name {k : Nat} (h : k < 26) : nameB (lt1 k) = true ∧ spl (lt1 k) = ([], lt1 k) := by
  have : ∀ k : Fin 26, nameB (lt1 k) = true ∧ spl (lt1 k) = ([], lt1 k) := by decide +kernel
  exact this ⟨k, h⟩
theorem lt1_inj {j k : Nat} (hj : j < 26) (hk : k < 26) (h : lt1 j = lt1 k) : j = k := by
  have : ∀ j k : Fin 26, lt1 j = lt1 k → j = k := by decide +kernel
  exact Fin.mk.inj_iff.1 (this ⟨j, hj⟩ ⟨k, hk⟩ h)
theorem lt1_abv {k : Nat} (h : k < 26) (l : List Itm) : abv l (lt1 k) = 0 := by unfold abv; rw [(lt1_name h).2]; rfl
end Go.Proofs.Ytckoapfmfpmdgaa
