/-
  What is told of an instruction by itself: lastName, misplaced, misshapen of package check.
-/
import Derived.Test.YthjbjbbbbdhcmaaCheckH
import Derived.Test.YthjbjbbbbdhcmaaCheckS
namespace Go.Proofs.Ythjbjbbbbdhcmaa
open Go.ChangeShapes Go.WideShapes Go.ChangeAt Go.RowKit Go.Joins
set_option linter.unusedVariables false

def lastI (x : Int × Int) : Int := if isName x.1 = true then x.2 else if x.1 = 34 then max (x.2 / 8) (x.2 % 8) else -1
theorem last_names (m : Nat) (x : Int × Int) : (namesOf x).any (fun a => decide ((m : Int) ≤ a)) = decide ((m : Int) ≤ lastI x) := by
  unfold namesOf lastI
  split
  · simp
  · split
    · simp only [List.any_cons, List.any_nil, Bool.or_false]
      rw [← Bool.decide_or]
      congr 1
      apply propext
      omega
    · rw [List.any_nil]
      exact (decide_eq_false (by omega)).symm
theorem may_any (x : Int × Int) (W : World) :
    Calls Try.prog 40 #[.agg #[.int .i64 x.1, .int .i64 x.2]] W fun e W' => e = .returned (.bool (okI x)) ∧ Grown W W' := by
  obtain ⟨op, a⟩ := x
  unfold okI
  simp only
  by_cases h : 1 ≤ op ∧ op < 42
  · obtain ⟨k, rfl⟩ : ∃ k : Nat, op = k := ⟨op.toNat, by omega⟩
    rw [decide_eq_true h, Bool.true_and]
    exact may_yes k a (by omega) (by omega) W
  · rw [decide_eq_false h, Bool.false_and]
    exact may_no op a h W
set_option maxHeartbeats 2000000 in
theorem last_any (op a : Int) (W : World) (h0 : 0 ≤ a) (h1 : a ≤ 65535) : Calls Try.prog 41 #[.agg #[.int .i64 op, .int .i64 a]] W fun e W' => e = .returned (.int .i64 (lastI (op, a))) ∧ Gw W W' := by
  obtain ⟨c0, c1, f0, f1⟩ := two_cells (heap_alloc_new W (.cells #[.int .i64 op, .int .i64 a] 38))
  have HG := Lib.hid (Gw.alloc W (.cells #[.int .i64 op, .int .i64 a] 38))
  by_cases hn : isName op = true
  · have HN := Lib.hid (show lastI (op, a) = a by unfold lastI; rw [if_pos hn])
    have h5 := isName_any.1 hn
    clear hn
    rcases h5 with rfl | rfl | rfl | rfl | rfl
    all_goals
      go_enter Try.func41, Try.ntmps41
      go_wp2
      go_ret
      exact ⟨by rw [HN.out]; rfl, HG.out⟩
  · have hx : ¬ (op = 27 ∨ op = 33 ∨ op = 35 ∨ op = 36 ∨ op = 37) := fun k => hn (isName_any.2 k)
    have b1 : (op == 27) = false := by simp; omega
    have b2 : (op == 33) = false := by simp; omega
    have b3 : (op == 35) = false := by simp; omega
    have b4 : (op == 36) = false := by simp; omega
    have b5 : (op == 37) = false := by simp; omega
    by_cases h34 : op = 34
    · have HN := Lib.hid (show lastI (op, a) = max (a / 8) (a % 8) by unfold lastI; rw [if_neg hn, if_pos h34])
      have b6 : (op == 34) = true := by simp [h34]
      have t1 := tdiv8 h0
      have t2 := tmod8 h0
      have w1 : IntKind.i64.wrap (a / 8) = a / 8 := wrap_in (by omega) (by omega)
      have w2 : IntKind.i64.wrap (a % 8) = a % 8 := wrap_in (by omega) (by omega)
      clear h34 hn hx
      go_enter Try.func41, Try.ntmps41
      go_wp2
      go_ret
      exact ⟨by rw [HN.out]; rfl, HG.out⟩
    · have b6 : (op == 34) = false := by simp [h34]
      have HN := Lib.hid (show lastI (op, a) = -1 by unfold lastI; rw [if_neg hn, if_neg h34])
      clear hn hx h34
      go_enter Try.func41, Try.ntmps41
      go_wp2
      go_ret
      exact ⟨by rw [HN.out]; rfl, HG.out⟩
/-- What misplaced holds in memory. -/
structure MS (W w : World) (p q : Nat) (A : Option Addr) (ln ca : Nat) (B : Option Addr) (nn cb : Nat) (op a : Int) : Prop where
  gw : Gw W w
  c : Has w p 25 #[.slice A ln ca, .slice B nn cb]
  d : Has w q 38 #[.int .i64 op, .int .i64 a]
theorem MS.on {W w w' : World} {p q : Nat} {A : Option Addr} {ln ca : Nat} {B : Option Addr} {nn cb : Nat} {op a : Int} (h : MS W w p q A ln ca B nn cb op a) (g : Gw w w') : MS W w' p q A ln ca B nn cb op a :=
  ⟨h.gw.trans g, h.c.on g, h.d.on g⟩
theorem fault_mis {n m i : Nat} {x : Int × Int} (h1 : okI x = true) : fault n m i x = if (m : Int) ≤ lastI x then 10 else if jumpsB x.1 = true ∧ (n : Int) ≤ x.2 then 6 else if endsB x.1 = false ∧ i + 1 = n then 8 else 0 := by
  unfold fault
  rw [if_neg (by rw [h1]; decide), last_names]
  by_cases h2 : (m : Int) ≤ lastI x
  · rw [if_pos (decide_eq_true h2), if_pos h2]
  · rw [if_neg (by rw [decide_eq_false h2]; decide), if_neg h2]
    have e1 : ((x.1 = 22 ∨ x.1 = 23) ∧ (n : Int) ≤ x.2) ↔ (jumpsB x.1 = true ∧ (n : Int) ≤ x.2) := by unfold jumpsB; simp
    have e2 : ((x.1 ≠ 22 ∧ x.1 ≠ 26) ∧ i + 1 = n) ↔ (endsB x.1 = false ∧ i + 1 = n) := by unfold endsB; simp
    by_cases h3 : (x.1 = 22 ∨ x.1 = 23) ∧ (n : Int) ≤ x.2
    · rw [if_pos h3, if_pos (e1.1 h3)]
    · rw [if_neg h3, if_neg (fun k => h3 (e1.2 k))]
      by_cases h4 : (x.1 ≠ 22 ∧ x.1 ≠ 26) ∧ i + 1 = n
      · rw [if_pos h4, if_pos (e2.1 h4)]
      · rw [if_neg h4, if_neg (fun k => h4 (e2.2 k))]
set_option maxHeartbeats 4000000 in
theorem mis_any {W : World} {A B : Option Addr} {L : List (Int × Int)} {N : List ByteArray} {ca cb n : Nat} {x : Int × Int} (h : POk W A L ca B N cb) (hx : L[n]? = some x) :
    Calls Try.prog 30 #[.agg #[.slice A L.length ca, .slice B N.length cb], .int .i64 (n : Int)] W fun e W' => e = .returned (.int .i64 (fault L.length N.length n x)) ∧ Gw W W' := by
  obtain ⟨op, a⟩ := x
  have HK := h.alloc (.cells #[.slice A L.length ca, .slice B N.length cb] 25)
  have hlt : n < L.length := (List.getElem?_eq_some_iff.1 hx).1
  have hL : (L.length : Int) ≤ 9223372036854775807 := by have := h.la; have := h.ma; omega
  obtain ⟨g, off, rfl, hg, hc0, hc1⟩ := HK.inst n _ hx
  have hgn : ¬ g = (W.alloc (.cells #[.slice (some ⟨g, off, none⟩) L.length ca, .slice B N.length cb] 25)).heap.size := by omega
  have M0 : MS W ((W.alloc (.cells #[.slice (some ⟨g, off, none⟩) L.length ca, .slice B N.length cb] 25)).alloc (.cells #[.int .i64 op, .int .i64 a] 38)) W.heap.size (W.heap.size + 1) (some ⟨g, off, none⟩) L.length ca B N.length cb op a :=
    ⟨(Gw.alloc W _).trans (Gw.alloc _ _), (Has.new W _ _).on (Gw.alloc _ _), by have := Has.new (W.alloc (.cells #[.slice (some ⟨g, off, none⟩) L.length ca, .slice B N.length cb] 25)) 38 #[.int .i64 op, .int .i64 a]; rw [size_alloc] at this; exact this⟩
  have HM := Lib.hid M0
  obtain ⟨c0, c1, f0, f1⟩ := two_cells (heap_alloc_new W (.cells #[.slice (some ⟨g, off, none⟩) L.length ca, .slice B N.length cb] 25))
  have hn : ∀ b w, (Op.unary .not (.bool b)).run Try.prog w = .ok (.bool (!b)) w := fun _ _ => rfl
  clear h HK M0 hx
  have F := may_any (op, a)
  cases hok : okI (op, a) with
  | false =>
    have HX := Lib.hid (fault_5 (n := L.length) (m := N.length) (i := n) hok)
    rw [hok] at F
    clear hok
    go_enter Try.func30, Try.ntmps30
    go_wp2_with (go_at_call 40; with_reducible refine (F _).mono ?_; rintro e w' ⟨rfl, G1⟩)
    go_ret
    exact ⟨by rw [HX.out]; rfl, HM.out.gw.trans (Grown.gw G1)⟩
  | true =>
    have HX := Lib.hid (fault_mis (n := L.length) (m := N.length) (i := n) hok)
    obtain ⟨p1, p2, p3, p4⟩ := okI_bd hok
    simp only at p1 p2 p3 p4
    rw [hok] at F
    clear hok
    have FL := fun w => last_any op a w p3 p4
    go_enter Try.func30, Try.ntmps30
    go_upto_region 4 with (go_at_call 40; with_reducible refine (F _).mono ?_; rintro e w1 ⟨rfl, G1⟩; have M1 := Lib.hid (HM.out.on (Grown.gw G1)))
    have hne : Nonempty (InP (fun w => MS W w W.heap.size (W.heap.size + 1) (some ⟨g, off, none⟩) L.length ca B N.length cb op a)) := ⟨⟨_, M1.out⟩⟩
    have k0 : ∀ n : InP (fun w => MS W w W.heap.size (W.heap.size + 1) (some ⟨g, off, none⟩) L.length ca B N.length cb op a), n.val.cell? ⟨W.heap.size, 0, none⟩ = some (.slice (some ⟨g, off, none⟩) L.length ca) := fun n => n.ok.c.cell 0
    have k1 : ∀ n : InP (fun w => MS W w W.heap.size (W.heap.size + 1) (some ⟨g, off, none⟩) L.length ca B N.length cb op a), n.val.cell? ⟨W.heap.size, 1, none⟩ = some (.slice B N.length cb) := fun n => n.ok.c.cell 1
    have k2 : ∀ n : InP (fun w => MS W w W.heap.size (W.heap.size + 1) (some ⟨g, off, none⟩) L.length ca B N.length cb op a), n.val.cell? ⟨W.heap.size + 1, 0, none⟩ = some (.int .i64 op) := fun n => n.ok.d.cell 0
    have k3 : ∀ n : InP (fun w => MS W w W.heap.size (W.heap.size + 1) (some ⟨g, off, none⟩) L.length ca B N.length cb op a), n.val.cell? ⟨W.heap.size + 1, 1, none⟩ = some (.int .i64 a) := fun n => n.ok.d.cell 1
    refine region_p (S := fun w => MS W w W.heap.size (W.heap.size + 1) (some ⟨g, off, none⟩) L.length ca B N.length cb op a) (by kernel_rfl) (by kernel_rfl) (M1.out.on (Gw.refl _).drew) ?_
    repeat (go_big_quiet_step (with_reducible exact toG (fun a b h g => MS.on h g) (FL _)))
    refine wpQuiet_nil ?_
    intro _ hw'
    obtain ⟨nq, rfl⟩ := hw'
    have q0 := k0 nq
    have q1 := k1 nq
    have q2 := k2 nq
    have q3 := k3 nq
    have MQ := Lib.hid nq.ok
    generalize nq.val = wq at *
    clear k0 k1 k2 k3 hne M1 G1 FL F HM c0 c1 f0 f1 hc0 hc1
    generalize lastI (op, a) = la at *
    have FJ := fun w => jumps_any op w
    have FE := fun w => ends_any op w
    have w1 : IntKind.i64.wrap ((L.length : Int) - 1) = (L.length : Int) - 1 := wrap_in (by omega) (by omega)
    by_cases h10 : (N.length : Int) ≤ la
    · have d10 : decide ((N.length : Int) ≤ la) = true := decide_eq_true h10
      rw [if_pos h10] at HX
      clear h10
      rw [d10]
      go_wp2_with (first | (go_at_call 33; with_reducible refine (FJ _).mono ?_; rintro e w' ⟨rfl, rfl⟩) | (go_at_call 34; with_reducible refine (FE _).mono ?_; rintro e w' ⟨rfl, rfl⟩))
      go_ret
      exact ⟨by rw [HX.out]; rfl, MQ.out.gw⟩
    have d10 : decide ((N.length : Int) ≤ la) = false := decide_eq_false h10
    rw [if_neg h10] at HX
    clear h10
    rw [d10]
    cases hj : jumpsB op with
    | true =>
      rw [hj] at FJ
      by_cases h6 : (L.length : Int) ≤ a
      · have d6 : decide ((L.length : Int) ≤ a) = true := decide_eq_true h6
        rw [if_pos ⟨hj, h6⟩] at HX
        clear h6 hj
        go_wp2_with (first | (go_at_call 33; with_reducible refine (FJ _).mono ?_; rintro e w' ⟨rfl, rfl⟩) | (go_at_call 34; with_reducible refine (FE _).mono ?_; rintro e w' ⟨rfl, rfl⟩))
        go_ret
        exact ⟨by rw [HX.out]; rfl, MQ.out.gw⟩
      have d6 : decide ((L.length : Int) ≤ a) = false := decide_eq_false h6
      rw [if_neg (fun k => h6 k.2)] at HX
      clear h6 hj
      cases he : endsB op with
      | true =>
        rw [he] at FE
        rw [if_neg (fun k => by have k1 := k.1; rw [he] at k1; cases k1)] at HX
        clear he
        go_wp2_with (first | (go_at_call 33; with_reducible refine (FJ _).mono ?_; rintro e w' ⟨rfl, rfl⟩) | (go_at_call 34; with_reducible refine (FE _).mono ?_; rintro e w' ⟨rfl, rfl⟩))
        go_ret
        exact ⟨by rw [HX.out]; rfl, MQ.out.gw⟩
      | false =>
        rw [he] at FE
        by_cases h8 : n + 1 = L.length
        · have d8 : ((n : Int) == (L.length : Int) - 1) = true := by simp; omega
          rw [if_pos ⟨he, h8⟩] at HX
          clear he h8
          go_wp2_with (first | (go_at_call 33; with_reducible refine (FJ _).mono ?_; rintro e w' ⟨rfl, rfl⟩) | (go_at_call 34; with_reducible refine (FE _).mono ?_; rintro e w' ⟨rfl, rfl⟩))
          go_ret
          exact ⟨by rw [HX.out]; rfl, MQ.out.gw⟩
        · have d8 : ((n : Int) == (L.length : Int) - 1) = false := by simp; omega
          rw [if_neg (fun k => h8 k.2)] at HX
          clear he h8
          go_wp2_with (first | (go_at_call 33; with_reducible refine (FJ _).mono ?_; rintro e w' ⟨rfl, rfl⟩) | (go_at_call 34; with_reducible refine (FE _).mono ?_; rintro e w' ⟨rfl, rfl⟩))
          go_ret
          exact ⟨by rw [HX.out]; rfl, MQ.out.gw⟩
    | false =>
      rw [hj] at FJ
      rw [if_neg (fun k => by have k1 := k.1; rw [hj] at k1; cases k1)] at HX
      clear hj
      cases he : endsB op with
      | true =>
        rw [he] at FE
        rw [if_neg (fun k => by have k1 := k.1; rw [he] at k1; cases k1)] at HX
        clear he
        go_wp2_with (first | (go_at_call 33; with_reducible refine (FJ _).mono ?_; rintro e w' ⟨rfl, rfl⟩) | (go_at_call 34; with_reducible refine (FE _).mono ?_; rintro e w' ⟨rfl, rfl⟩))
        go_ret
        exact ⟨by rw [HX.out]; rfl, MQ.out.gw⟩
      | false =>
        rw [he] at FE
        by_cases h8 : n + 1 = L.length
        · have d8 : ((n : Int) == (L.length : Int) - 1) = true := by simp; omega
          rw [if_pos ⟨he, h8⟩] at HX
          clear he h8
          go_wp2_with (first | (go_at_call 33; with_reducible refine (FJ _).mono ?_; rintro e w' ⟨rfl, rfl⟩) | (go_at_call 34; with_reducible refine (FE _).mono ?_; rintro e w' ⟨rfl, rfl⟩))
          go_ret
          exact ⟨by rw [HX.out]; rfl, MQ.out.gw⟩
        · have d8 : ((n : Int) == (L.length : Int) - 1) = false := by simp; omega
          rw [if_neg (fun k => h8 k.2)] at HX
          clear he h8
          go_wp2_with (first | (go_at_call 33; with_reducible refine (FJ _).mono ?_; rintro e w' ⟨rfl, rfl⟩) | (go_at_call 34; with_reducible refine (FE _).mono ?_; rintro e w' ⟨rfl, rfl⟩))
          go_ret
          exact ⟨by rw [HX.out]; rfl, MQ.out.gw⟩
/-- What misshapen answers. -/
abbrev ShPost (L : List (Int × Int)) (N : List ByteArray) (W : World) (e : Ending) (W' : World) : Prop :=
  ∃ (k f : Int), e = .returned (.tuple #[.int .i64 k, .int .i64 f]) ∧ ((f ≠ 0 ∧ Is L N k f []) ∨ (k = 0 ∧ f = 0 ∧ Sized L N ∧ Named N ∧ Single L N)) ∧ Gw W W'
theorem named_any {N : List ByteArray} : (N.any fun s => !nameB s.data.toList) = false ↔ Named N := by
  rw [List.any_eq_false]
  unfold Named
  constructor
  · intro h s hs
    have := h s hs
    simpa using this
  · intro h s hs
    rw [h s hs]
    decide
set_option maxHeartbeats 4000000 in
theorem shape_any {W : World} {A B : Option Addr} {L : List (Int × Int)} {N : List ByteArray} {ca cb : Nat} (h : POk W A L ca B N cb) :
    Calls Try.prog 22 #[.agg #[.slice A L.length ca, .slice B N.length cb]] W (ShPost L N W) := by
  have HK := Lib.hid (h.alloc (.cells #[.slice A L.length ca, .slice B N.length cb] 25))
  have HG := Lib.hid (Gw.alloc W (.cells #[.slice A L.length ca, .slice B N.length cb] 25))
  obtain ⟨c0, c1, f0, f1⟩ := two_cells (heap_alloc_new W (.cells #[.slice A L.length ca, .slice B N.length cb] 25))
  clear h
  by_cases hS : Sized L N
  case neg =>
    have HI := Lib.hid (Is.full hS)
    have h3 : L.length = 0 ∨ 96 < L.length ∨ (1 ≤ L.length ∧ L.length ≤ 96 ∧ 8 < N.length) := by
      by_cases a : L.length = 0
      · exact .inl a
      by_cases b : 96 < L.length
      · exact .inr (.inl b)
      by_cases c : 8 < N.length
      · exact .inr (.inr ⟨by omega, by omega, c⟩)
      exact absurd ⟨by omega, by omega, by omega⟩ hS
    clear hS
    rcases h3 with a | a | ⟨a, b, c⟩
    · have b0 : ((L.length : Int) == 0) = true := by simp [a]
      clear a
      go_enter Try.func22, Try.ntmps22
      go_wp2
      go_ret2
      exact ⟨_, _, rfl, .inl ⟨by decide, HI.out⟩, HG.out⟩
    · have b0 : ((L.length : Int) == 0) = false := by simp; intro e; subst e; simp at a
      have b1 : decide ((96 : Int) < L.length) = true := decide_eq_true (by omega)
      clear a
      go_enter Try.func22, Try.ntmps22
      go_wp2
      go_ret2
      exact ⟨_, _, rfl, .inl ⟨by decide, HI.out⟩, HG.out⟩
    · have b0 : ((L.length : Int) == 0) = false := by simp; intro e; subst e; simp at a
      have b1 : decide ((96 : Int) < L.length) = false := decide_eq_false (by omega)
      have b2 : decide ((8 : Int) < N.length) = true := decide_eq_true (by omega)
      clear a b c
      go_enter Try.func22, Try.ntmps22
      go_wp2
      go_ret2
      exact ⟨_, _, rfl, .inl ⟨by decide, HI.out⟩, HG.out⟩
  have hl1 := hS.l1
  have hl2 := hS.l2
  have hn8 := hS.n
  have HS := Lib.hid hS
  clear hS
  have b0 : ((L.length : Int) == 0) = false := by simp; intro e; subst e; simp at hl1
  have b1 : decide ((96 : Int) < L.length) = false := decide_eq_false (by omega)
  have b2 : decide ((8 : Int) < N.length) = false := decide_eq_false (by omega)
  have FC := fun {w : World} (h : POk w A L ca B N cb) => ncont_any h.lb h.mb h.str h.sz
  cases hnm : (N.any fun s => !nameB s.data.toList) with
  | true =>
    have HI := Lib.hid (Is.name HS.out (fun k => by rw [named_any.2 k] at hnm; cases hnm))
    rw [hnm] at FC
    clear hnm
    go_enter Try.func22, Try.ntmps22
    go_wp2_with (go_at_call 27; with_reducible refine (FC HK.out).mono ?_; rintro e w' ⟨rfl, G1⟩)
    go_ret2
    exact ⟨_, _, rfl, .inl ⟨by decide, HI.out⟩, HG.out.trans G1⟩
  | false =>
    have HNM := Lib.hid (named_any.1 hnm)
    rw [hnm] at FC
    clear hnm
    go_enter Try.func22, Try.ntmps22
    go_upto_region 5 with (go_at_call 27; with_reducible refine (FC HK.out).mono ?_; rintro e w1 ⟨rfl, G1⟩; have e0 := G1.cell c0; have e1 := G1.cell c1)
    have HK1 := Lib.hid (HK.out.gw G1)
    have HG1 := Lib.hid (HG.out.trans G1)
    clear b0 b1 b2 FC HK HG G1 c0 c1 f0 f1
    go_wp2
    go_loopw [30] (fun i wr => ∃ k : Nat, k ≤ L.length ∧ i = .int .i64 k ∧ Hid (∀ j y, j < k → L[j]? = some y → fault L.length N.length j y = 0) ∧ Hid (Gw w1 wr)) (fun i _ => L.length - (intOf i).toNat)
    case atStart => exact ⟨0, by omega, rfl, fun j s hj => by omega, Gw.refl _⟩
    case round =>
      obtain ⟨k, hk, rfl, HE, G⟩ := hrel
      have d0 := G.out.cell e0
      have d1 := G.out.cell e1
      have HKr := Lib.hid (HK1.out.gw G.out)
      by_cases hlt : k < L.length
      · obtain ⟨x, hx⟩ : ∃ x, L[k]? = some x := ⟨_, List.getElem?_eq_getElem hlt⟩
        have FM := mis_any HKr.out hx
        by_cases hf : fault L.length N.length k x = 0
        · have HE2 : Hid (∀ j y, j < k + 1 → L[j]? = some y → fault L.length N.length j y = 0) := fun j y hj hy => by
            by_cases e : j = k
            · subst e; rw [hx] at hy; injection hy with hy; subst hy; exact hf
            · exact HE.out j y (by omega) hy
          rw [hf] at FM
          clear hf HE hx
          go_wp2_with (go_at_call 30; with_reducible refine FM.mono ?_; rintro e w' ⟨rfl, G2⟩)
          go_roundw
          case rel => exact ⟨k + 1, by omega, by go_num, HE2, G.out.trans G2⟩
          case measure => simp [intOf]; omega
        · have HI := Lib.hid (Is.single HS.out HNM.out hx hf HE.out)
          have HF := Lib.hid hf
          have hfe : (fault L.length N.length k x == 0) = false := by simp [hf]
          have hfn : (fault L.length N.length k x != 0) = true := by simp [hf]
          clear HE hx
          generalize fault L.length N.length k x = fc at *
          go_wp2_with (go_at_call 30; with_reducible refine FM.mono ?_; rintro e w' ⟨rfl, G2⟩)
          go_ret2
          exact ⟨_, _, rfl, .inl ⟨HF.out, HI.out⟩, HG1.out.trans (G.out.trans G2)⟩
      · obtain rfl : k = L.length := by omega
        have HSI : Hid (Single L N) := fun j y hy => HE.out j y (List.getElem?_eq_some_iff.1 hy).1 hy
        clear HE hlt hk
        go_wp2
        go_ret2
        exact ⟨_, _, rfl, .inr ⟨rfl, rfl, HS.out, HNM.out, HSI.out⟩, HG1.out.trans G.out⟩
end Go.Proofs.Ythjbjbbbbdhcmaa
