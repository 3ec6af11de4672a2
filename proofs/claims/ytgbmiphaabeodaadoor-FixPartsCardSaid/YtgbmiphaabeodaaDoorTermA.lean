/-
  Eval answers what a term is worth; only, parts and within of package term: which ids stand in a node.
-/
import Derived.Test.YtgbmiphaabeodaaDoorTermV
import Derived.Laws.BitsAllLaws
import Derived.Laws.ShiftsVarLaws
namespace Go.Proofs.YtgbmiphaabeodaaDoor
open Go.ChangeShapes Go.WideShapes Go.ChangeAt Go.RowKit
set_option linter.unusedVariables false

theorem eval_any (w : World) (ab : Nat) (ns : List Nd) (foot : Nat → Prop) (A : Option Addr) (cap : Nat) (env : List Int) (x : Int) (h : Ar w ab ns foot) (he : EnvAt w A env) :
    Calls Tryd.prog 10 #[ptr ab, .int .i64 x, .slice A env.length cap] w fun e w' => e = .returned (.int .u16 (V ns env x)) ∧ Below w.heap.size w w' := by
  have E0 : Ev (w.alloc (.cells #[ptr ab, .slice A env.length cap, .int .i64 0, .map none] 73)) w.heap.size ab ns foot A cap env none :=
    ⟨h.alloc _, ⟨0, Has.new w _ _⟩, fun hf => by have := h.lt _ hf; omega, he.keep (fun a ha => alloc_other (he.lt a ha)) (by simp), fun a ha => ⟨by have := he.lt a ha; omega, by simp⟩, fun b hb => by cases hb⟩
  have HV := Lib.hid (value_all w.heap.size ab ns foot A cap env h.wf x _ _ E0)
  clear h he E0
  generalize env.length = len at *
  go_enter Tryd.func10, Tryd.ntmps10
  go_wp2_with (go_at_call 27; refine HV.out.mono ?_; rintro e w' ⟨rfl, mo', hp⟩)
  go_ret
  exact ⟨rfl, ((Below.refl _ _).alloc (Nat.le_refl _) _).trans (hp.kept.below (by simp) (fun k hk hm => by rcases hm with rfl | hm; omega; cases hm))⟩

theorem wrap_u64_nat {m : Nat} (h : m < 2 ^ 64) : IntKind.u64.wrap (m : Int) = m := by
  rw [IntKind.wrap_u64]; omega
theorem only_any (v : Int) (w : World) (h0 : 0 ≤ v) (h1 : v < 64) :
    Calls Tryd.prog 65 #[.int .u16 v] w fun e w' => e = .returned (.int .u64 ((1 <<< v.toNat : Nat) : Int)) ∧ w = w' := by
  obtain ⟨i, rfl⟩ := Int.eq_ofNat_of_zero_le h0
  go_enter Tryd.func65, Tryd.ntmps65
  go_wp2
  go_ret
  refine ⟨?_, rfl⟩
  show Ending.returned (Value.int .u64 (IntKind.u64.wrap (2 ^ i))) = _
  have hp : (2 : Int) ^ i = ((2 ^ i : Nat) : Int) := by push_cast; rfl
  have hb : 2 ^ i < 2 ^ 64 := Nat.pow_lt_pow_right (by decide) (by omega)
  rw [hp, Int.toNat_natCast, Nat.one_shiftLeft, wrap_u64_nat hb]
theorem parts_any (n : Nd) (w : World) :
    Calls Tryd.prog 54 #[n.ag] w fun e w' => e = .returned (.agg #[.int .i64 n.a, .int .i64 n.b, .int .i64 n.c]) ∧ Below w.heap.size w w' := by
  obtain ⟨op, wd, val, a, b, c⟩ := n
  go_enter Tryd.func54, Tryd.ntmps54
  go_wp2
  exact bodyPost_ret (v := .agg #[.int .i64 a, .int .i64 b, .int .i64 c]) (by simp [results, Tryd.results54, go_sem]) rfl ⟨rfl, by repeat (first | exact Below.refl _ _ | refine Below.alloc ?_ (by first | omega | (simp; done) | (simp; omega)) _ | refine Below.drew ?_ | refine Below.setCell ?_ (by first | omega | (simp; done) | (simp; omega)) _)⟩
/-- What stands in the first k parts. -/
def upTo (I : Int → Nat) (n : Nd) (k : Nat) : Nat := (if 1 ≤ k then I n.a else 0) ||| ((if 2 ≤ k then I n.b else 0) ||| (if 3 ≤ k then I n.c else 0))
theorem upTo_lt {ns : List Nd} (h : WF ns) (n : Nd) (k : Nat) : upTo (Iv ns) n k < 18446744073709551616 := by
  have key : ∀ p : Int, Iv ns p < 2 ^ 64 := fun p => Iv_lt h p.toNat p (Int.self_le_toNat p)
  have key2 : ∀ (c : Prop) [Decidable c] (p : Int), (if c then Iv ns p else 0) < 2 ^ 64 := fun c _ p => by split; exact key p; decide
  exact Nat.or_lt_two_pow (n := 64) (key2 _ _) (Nat.or_lt_two_pow (key2 _ _) (key2 _ _))
theorem upTo_step {ns : List Nd} (h : WF ns) (n : Nd) (k : Nat) (p : Int) (hk : (k = 0 ∧ p = n.a) ∨ (k = 1 ∧ p = n.b) ∨ (k = 2 ∧ p = n.c)) :
    bits .or .u64 ((upTo (Iv ns) n k : Nat) : Int) ((Iv ns p : Nat) : Int) = ((upTo (Iv ns) n (k + 1) : Nat) : Int) := by
  rw [u64_or_nat _ _ (upTo_lt h n k) (Iv_lt h _ _ (Int.self_le_toNat _))]
  rcases hk with ⟨rfl, rfl⟩ | ⟨rfl, rfl⟩ | ⟨rfl, rfl⟩ <;> simp [upTo, Nat.or_assoc]
theorem upTo_none {ns : List Nd} (n : Nd) (k : Nat) (p : Int) (hk : (k = 0 ∧ p = n.a) ∨ (k = 1 ∧ p = n.b) ∨ (k = 2 ∧ p = n.c)) (ht : ¬ isT ns p) : upTo (Iv ns) n (k + 1) = upTo (Iv ns) n k := by
  have hz := Iv_none ht
  rcases hk with ⟨rfl, rfl⟩ | ⟨rfl, rfl⟩ | ⟨rfl, rfl⟩ <;> simp [upTo, hz]
def pt (n : Nd) (k : Nat) : Int := if k = 0 then n.a else if k = 1 then n.b else n.c
theorem pt_cases (n : Nd) {k : Nat} (h : k < 3) : (k = 0 ∧ pt n k = n.a) ∨ (k = 1 ∧ pt n k = n.b) ∨ (k = 2 ∧ pt n k = n.c) := by
  have : k = 0 ∨ k = 1 ∨ k = 2 := by omega
  rcases this with rfl | rfl | rfl <;> simp [pt]
theorem idx_pt (n : Nd) {k : Nat} (h : k < 3) (w : World) : (Instr.index 107 (.agg #[.int .i64 n.a, .int .i64 n.b, .int .i64 n.c]) (.int .i64 k)).run Tryd.prog w = .ok (.int .i64 (pt n k)) w := by
  have : k = 0 ∨ k = 1 ∨ k = 2 := by omega
  rcases this with rfl | rfl | rfl
  · show (Instr.index 107 (.agg #[.int .i64 n.a, .int .i64 n.b, .int .i64 n.c]) (.int .i64 0)).run Tryd.prog w = .ok (.int .i64 n.a) w
    kernel_rfl
  · show (Instr.index 107 (.agg #[.int .i64 n.a, .int .i64 n.b, .int .i64 n.c]) (.int .i64 1)).run Tryd.prog w = .ok (.int .i64 n.b) w
    kernel_rfl
  · show (Instr.index 107 (.agg #[.int .i64 n.a, .int .i64 n.b, .int .i64 n.c]) (.int .i64 2)).run Tryd.prog w = .ok (.int .i64 n.c) w
    kernel_rfl
theorem within_any (w : World) (ab m : Nat) (ns : List Nd) (n : Nd) (h : Half w ab m ns) (hm : ns.length ≤ m) (hwf : WF ns) (hn : NW ns n) :
    Calls Tryd.prog 53 #[ptr ab, n.ag] w fun e w' => e = .returned (.int .u64 ((niv (Iv ns) n : Nat) : Int)) ∧ Below w.heap.size w w' := by
  by_cases h2 : n.op = 2
  · have hv := (hn.two h2).1
    have hv0 := hn.v0
    have e : niv (Iv ns) n = 1 <<< n.val.toNat := by unfold niv; rw [if_pos h2]
    rw [e]
    clear h hn e hwf
    obtain ⟨op, wd, val, a, b, c⟩ := n
    obtain rfl : op = 2 := h2
    have hv' : val < 64 := hv
    have hv0' : 0 ≤ val := hv0
    clear hv hv0
    go_enter Tryd.func53, Tryd.ntmps53
    go_wp2_with (go_at_call 65; refine (only_any _ _ hv0' hv').mono ?_; rintro e w' ⟨rfl, rfl⟩)
    go_ret
    exact ⟨rfl, (Below.refl _ _).alloc (Nat.le_refl _) _⟩
  · have e : niv (Iv ns) n = upTo (Iv ns) n 3 := by unfold niv; rw [if_neg h2]; simp [upTo, Nat.or_assoc]
    rw [e]
    have h2' : (n.op == 2) = false := by simpa using h2
    have HW := Lib.hid hwf
    clear hwf
    have HP := Lib.hid (parts_any n (w.alloc (.cells #[.int .i64 n.op, .int .i64 n.w, .int .u16 n.val, .int .i64 n.a, .int .i64 n.b, .int .i64 n.c] 85)))
    have HA := Lib.hid (h.keep ((Below.refl _ _).alloc (Nat.le_refl _) (.cells #[.int .i64 n.op, .int .i64 n.w, .int .u16 n.val, .int .i64 n.a, .int .i64 n.b, .int .i64 n.c] 85)))
    have hp : ∀ k, k < 3 → 0 ≤ pt n k ∧ pt n k ≤ ns.length := fun k hk => by
      have ha := hn.pa; have hb := hn.pb; have hc := hn.pc
      unfold part at ha hb hc
      rcases pt_cases n hk with ⟨_, e⟩ | ⟨_, e⟩ | ⟨_, e⟩ <;> rw [e] <;> assumption
    have HPT := Lib.hid hp
    have hsz : m ≤ 65536 := by obtain ⟨A, cap, iv, mv, vs, _, _, hs⟩ := h; exact hs
    clear h hn e h2 hp
    go_enter Tryd.func53, Tryd.ntmps53
    go_wp2_with fail
    refine HP.out.mono ?_
    rintro e w1 ⟨rfl, hb⟩
    have H1 := Lib.hid (HA.out.keep hb)
    have HB := Lib.hid hb
    clear hb
    go_wp2_with fail
    go_loop [5, 16] (fun s i => ∃ k : Nat, k ≤ 3 ∧ i = .int .i64 k ∧ s = .int .u64 ((upTo (Iv ns) n k : Nat) : Int)) (fun _ i => 3 - (intOf i).toNat)
    case atStart => exact ⟨0, by omega, rfl, by simp [upTo]⟩
    case round =>
      obtain ⟨k, hk, rfl, rfl⟩ := hrel
      by_cases hlt : k < 3
      · have hix := idx_pt n hlt
        have HC := Lib.hid (pt_cases n hlt)
        obtain ⟨p0, p1⟩ := HPT.out k hlt
        generalize pt n k = p at hix HC p0 p1
        by_cases ht : isT ns p
        · have HU := Lib.hid (upTo_step HW.out n k p HC.out)
          obtain ⟨j, rfl⟩ : ∃ j : Nat, p = (j : Int) + 1 := ⟨(p - 1).toNat, by have := ht.1; omega⟩
          have HY := Lib.hid (hash_yes w1 ab m ns ((j : Int) + 1) H1.out ht.1 (by have := ht.2; omega))
          obtain ⟨A_, cap_, iv, mv, vs, hblk, hirow, _⟩ := H1.out
          have c1 : w1.cell? ⟨ab, 1, none⟩ = some iv := hblk.cell 1
          obtain ⟨g, icap, rfl, hg, hcap, hcm, hcell⟩ := row_id hirow (i := j) (by have := ht.2; omega)
          have hjl : j < ns.length := by have := ht.2; omega
          unfold maxLen at hcm
          clear hblk hirow ht
          go_wp2_with (go_at_call 25; refine HY.out.mono ?_; rintro e w' ⟨rfl, rfl⟩)
          go_round
          case rel => exact ⟨k + 1, by omega, by go_num, by rw [← HU.out]⟩
          case measure => simp [intOf]; omega
        · have HU := Lib.hid (upTo_none n k p HC.out ht)
          have HY := Lib.hid (hash_no w1 ab m ns p H1.out (by unfold isT at ht; omega))
          clear ht
          go_wp2_with (go_at_call 25; refine HY.out.mono ?_; rintro e w' ⟨rfl, rfl⟩)
          go_round
          case rel => exact ⟨k + 1, by omega, by go_num, by rw [HU.out]⟩
          case measure => simp [intOf]; omega
      · obtain rfl : k = 3 := by omega
        go_wp2
        go_ret
        exact ⟨rfl, ((Below.refl _ _).alloc (Nat.le_refl _) _).trans (HB.out.mono (by simp))⟩
end Go.Proofs.YtgbmiphaabeodaaDoor
