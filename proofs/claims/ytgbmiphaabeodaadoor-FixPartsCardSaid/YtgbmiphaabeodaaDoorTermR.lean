/-
  What Len, has, Node, Width and Known of package term give back: they read an arena and change nothing of it.
-/
import Derived.Test.YtgbmiphaabeodaaDoorTermW
import Derived.ProofKit
import Derived.OpenShut
import Derived.Outline
import Derived.Lib.Hide
import Derived.Deep.QuietTactic
import Derived.BigQuiet
namespace Go.Proofs.YtgbmiphaabeodaaDoor
open Go.ChangeShapes Go.WideShapes Go.ChangeAt Go.RowKit
set_option linter.unusedVariables false

abbrev ptr (ab : Nat) : Value := .pointer (some ⟨ab, 0, none⟩)
theorem len_any (w : World) (ab m : Nat) (ns : List Nd) (h : Half w ab m ns) :
    Calls Tryd.prog 41 #[ptr ab] w fun e w' => e = .returned (.int .i64 m) ∧ w = w' := by
  obtain ⟨A, cap, iv, mv, vs, h, _, hs⟩ := h
  have hc : w.cell? ⟨ab, 0, none⟩ = some (.slice A m cap) := h.cell 0
  clear h
  go_enter Tryd.func41, Tryd.ntmps41
  go_wp2
  go_ret
  exact ⟨rfl, rfl⟩
theorem hash_yes (w : World) (ab m : Nat) (ns : List Nd) (x : Int) (h : Half w ab m ns) (h0 : 1 ≤ x) (h1 : x ≤ m) :
    Calls Tryd.prog 25 #[ptr ab, .int .i64 x] w fun e w' => e = .returned (.bool true) ∧ w = w' := by
  have hs : m ≤ 65536 := by obtain ⟨A, cap, iv, mv, vs, _, _, hs⟩ := h; exact hs
  have H := Lib.hid h
  clear h
  go_enter Tryd.func25, Tryd.ntmps25
  go_wp2_with (go_at_call 41; refine (len_any _ _ _ _ H.out).mono ?_; rintro e w' ⟨rfl, rfl⟩)
  go_ret
  exact ⟨by first | (simp; done) | (simp; omega), rfl⟩
theorem hash_no (w : World) (ab m : Nat) (ns : List Nd) (x : Int) (h : Half w ab m ns) (hx : ¬ (1 ≤ x ∧ x ≤ m)) :
    Calls Tryd.prog 25 #[ptr ab, .int .i64 x] w fun e w' => e = .returned (.bool false) ∧ w = w' := by
  have hs : m ≤ 65536 := by obtain ⟨A, cap, iv, mv, vs, _, _, hs⟩ := h; exact hs
  have H := Lib.hid h
  clear h
  by_cases h0 : 1 ≤ x
  · have h1 : (m : Int) < x := by omega
    clear hx
    go_enter Tryd.func25, Tryd.ntmps25
    go_wp2_with (go_at_call 41; refine (len_any _ _ _ _ H.out).mono ?_; rintro e w' ⟨rfl, rfl⟩)
    go_ret
    exact ⟨by first | (simp; done) | (simp; omega), rfl⟩
  · clear hx
    go_enter Tryd.func25, Tryd.ntmps25
    go_wp2
    go_ret
    exact ⟨by first | (simp; done) | (simp; omega), rfl⟩
theorem has_yes (w : World) (ab : Nat) (ns : List Nd) (foot : Nat → Prop) (x : Int) (h : Ar w ab ns foot) (hx : isT ns x) :
    Calls Tryd.prog 25 #[ptr ab, .int .i64 x] w fun e w' => e = .returned (.bool true) ∧ w = w' := hash_yes w ab _ ns x h.half hx.1 hx.2
theorem has_no (w : World) (ab : Nat) (ns : List Nd) (foot : Nat → Prop) (x : Int) (h : Ar w ab ns foot) (hx : ¬ isT ns x) :
    Calls Tryd.prog 25 #[ptr ab, .int .i64 x] w fun e w' => e = .returned (.bool false) ∧ w = w' := hash_no w ab _ ns x h.half hx

abbrev Nd.ag (n : Nd) : Value := .agg #[.int .i64 n.op, .int .i64 n.w, .int .u16 n.val, .int .i64 n.a, .int .i64 n.b, .int .i64 n.c]
abbrev zeroNd : Nd := ⟨0, 0, 0, 0, 0, 0⟩
theorem node_yes (w : World) (ab : Nat) (ns : List Nd) (foot : Nat → Prop) (x : Int) (n : Nd) (h : Ar w ab ns foot) (hx : nd ns x = some n) :
    Calls Tryd.prog 33 #[ptr ab, .int .i64 x] w fun e w' => e = .returned (.tuple #[n.ag, .bool true]) ∧ Below w.heap.size w w' := by
  obtain ⟨h0, h1, h2⟩ := nd_pos hx
  obtain ⟨i, rfl⟩ : ∃ i : Nat, x = (i : Int) + 1 := ⟨(x - 1).toNat, by omega⟩
  have hi : ns[i]? = some n := by rw [← h2]; congr 1; omega
  have hs := h.sz
  have hil : i < ns.length := by omega
  have HY := Lib.hid (has_yes (w.alloc (.cells #[.int .i64 0, .int .i64 0, .int .u16 0, .int .i64 0, .int .i64 0, .int .i64 0] 85)) ab ns foot _ (h.alloc _) ⟨h0, h1⟩)
  obtain ⟨nv, iv, mv, vs, hvars, h⟩ := h
  have hb := h.blk.lt
  have hc : w.cell? ⟨ab, 0, none⟩ = some nv := h.blk.cell 0
  obtain ⟨g, cap, rfl, hg, hcap, hcm, hcell⟩ := row_node h.nrow hi
  unfold maxLen at hcm
  have c0 : w.cell? ⟨g, i * 6, none⟩ = some (.int .i64 n.op) := hcell 0 (by decide)
  have c1 : w.cell? ⟨g, i * 6 + 1, none⟩ = some (.int .i64 n.w) := hcell 1 (by decide)
  have c2 : w.cell? ⟨g, i * 6 + 2, none⟩ = some (.int .u16 n.val) := hcell 2 (by decide)
  have c3 : w.cell? ⟨g, i * 6 + 3, none⟩ = some (.int .i64 n.a) := hcell 3 (by decide)
  have c4 : w.cell? ⟨g, i * 6 + 4, none⟩ = some (.int .i64 n.b) := hcell 4 (by decide)
  have c5 : w.cell? ⟨g, i * 6 + 5, none⟩ = some (.int .i64 n.c) := hcell 5 (by decide)
  clear h hcell hx h2 hi hvars
  go_enter Tryd.func33, Tryd.ntmps33
  go_wp2_with (go_at_call 25; refine HY.out.mono ?_; rintro e w' ⟨rfl, rfl⟩)
  exact bodyPost_ret (v := .tuple #[n.ag, .bool true]) (by simp [results, Tryd.results33, go_sem]) rfl ⟨rfl, (by repeat (first | exact Below.refl _ _ | refine Below.alloc ?_ (by simp) _ | refine Below.drew ?_ | refine Below.setCell ?_ (by simp) _))⟩
theorem node_no (w : World) (ab : Nat) (ns : List Nd) (foot : Nat → Prop) (x : Int) (h : Ar w ab ns foot) (hx : ¬ isT ns x) :
    Calls Tryd.prog 33 #[ptr ab, .int .i64 x] w fun e w' => e = .returned (.tuple #[zeroNd.ag, .bool false]) ∧ Below w.heap.size w w' := by
  have HN := Lib.hid (has_no (w.alloc (.cells #[.int .i64 0, .int .i64 0, .int .u16 0, .int .i64 0, .int .i64 0, .int .i64 0] 85)) ab ns foot _ (h.alloc _) hx)
  clear h hx
  go_enter Tryd.func33, Tryd.ntmps33
  go_wp2_with (go_at_call 25; refine HN.out.mono ?_; rintro e w' ⟨rfl, rfl⟩)
  exact bodyPost_ret (v := .tuple #[zeroNd.ag, .bool false]) (by simp [results, Tryd.results33, go_sem]) rfl ⟨rfl, (by repeat (first | exact Below.refl _ _ | refine Below.alloc ?_ (by simp) _ | refine Below.drew ?_ | refine Below.setCell ?_ (by simp) _))⟩
/-- The node of a term; noughts of none. -/
def ndz (ns : List Nd) (x : Int) : Nd := (nd ns x).getD zeroNd
theorem node_any (w : World) (ab : Nat) (ns : List Nd) (foot : Nat → Prop) (x : Int) (h : Ar w ab ns foot) :
    Calls Tryd.prog 33 #[ptr ab, .int .i64 x] w fun e w' => (∃ b : Bool, e = .returned (.tuple #[(ndz ns x).ag, .bool b])) ∧ Below w.heap.size w w' := by
  by_cases ht : isT ns x
  · obtain ⟨n, hn, _⟩ := nd_some ht
    refine (node_yes w ab ns foot x n h hn).mono fun e w' ⟨he, hb⟩ => ⟨⟨true, ?_⟩, hb⟩
    rw [he]; unfold ndz; rw [hn]; rfl
  · refine (node_no w ab ns foot x h ht).mono fun e w' ⟨he, hb⟩ => ⟨⟨false, ?_⟩, hb⟩
    rw [he]; unfold ndz; rw [nd_none ht]; rfl
theorem wdt_ndz (ns : List Nd) (x : Int) : (ndz ns x).w = wdt ns x := by
  unfold ndz wdt; cases nd ns x <;> rfl
theorem width_any (w : World) (ab : Nat) (ns : List Nd) (foot : Nat → Prop) (x : Int) (h : Ar w ab ns foot) :
    Calls Tryd.prog 14 #[ptr ab, .int .i64 x] w fun e w' => e = .returned (.int .i64 (wdt ns x)) ∧ Below w.heap.size w w' := by
  have HN := Lib.hid (node_any w ab ns foot x h)
  have E := Lib.hid (wdt_ndz ns x)
  generalize ndz ns x = n at HN E
  clear h
  go_enter Tryd.func14, Tryd.ntmps14
  go_wp2_with (go_at_call 33; refine HN.out.mono ?_; rintro e w' ⟨⟨b, rfl⟩, hb⟩)
  go_ret
  exact ⟨by rw [← E.out]; rfl, by have := hb.size; repeat (first | exact hb | refine Below.alloc ?_ (by first | omega | (simp; done) | (simp; omega)) _ | refine Below.drew ?_ | refine Below.setCell ?_ (by first | omega | (simp; done) | (simp; omega)) _)⟩
theorem known_yes (w : World) (ab : Nat) (ns : List Nd) (foot : Nat → Prop) (x : Int) (n : Nd) (h : Ar w ab ns foot) (hx : nd ns x = some n) (h1 : n.op = 1) :
    Calls Tryd.prog 15 #[ptr ab, .int .i64 x] w fun e w' => e = .returned (.tuple #[.int .u16 n.val, .bool true]) ∧ Below w.heap.size w w' := by
  have HN := Lib.hid (node_yes w ab ns foot x n h hx)
  clear h hx
  obtain ⟨op, w_, val, a, b, c⟩ := n
  obtain rfl : op = 1 := h1
  go_enter Tryd.func15, Tryd.ntmps15
  go_wp2_with (go_at_call 33; refine HN.out.mono ?_; rintro e w' ⟨rfl, hb⟩)
  go_ret2
  exact ⟨rfl, by have := hb.size; repeat (first | exact hb | refine Below.alloc ?_ (by first | omega | (simp; done) | (simp; omega)) _ | refine Below.drew ?_ | refine Below.setCell ?_ (by first | omega | (simp; done) | (simp; omega)) _)⟩
theorem known_no (w : World) (ab : Nat) (ns : List Nd) (foot : Nat → Prop) (x : Int) (h : Ar w ab ns foot) (hx : ¬ isC ns x) :
    Calls Tryd.prog 15 #[ptr ab, .int .i64 x] w fun e w' => e = .returned (.tuple #[.int .u16 0, .bool false]) ∧ Below w.heap.size w w' := by
  have HN := Lib.hid (node_any w ab ns foot x h)
  have h1 : ((ndz ns x).op == 1) = false := by
    unfold ndz isC at *
    cases hn : nd ns x with
    | none => rfl
    | some n => simpa using fun e => hx ⟨n, hn, e⟩
  have h2 : ((ndz ns x).op != 1) = true := by unfold bne; rw [h1]; rfl
  generalize ndz ns x = n at HN h1 h2
  clear h hx
  obtain ⟨op, w_, val, a, b, c⟩ := n
  have h1' : (op == 1) = false := h1
  have h2' : (op != 1) = true := h2
  clear h1 h2
  go_enter Tryd.func15, Tryd.ntmps15
  go_wp2_with (go_at_call 33; refine HN.out.mono ?_; rintro e w' ⟨⟨b, rfl⟩, hb⟩)
  go_ret2
  exact ⟨rfl, by have := hb.size; repeat (first | exact hb | refine Below.alloc ?_ (by first | omega | (simp; done) | (simp; omega)) _ | refine Below.drew ?_ | refine Below.setCell ?_ (by first | omega | (simp; done) | (simp; omega)) _)⟩
end Go.Proofs.YtgbmiphaabeodaaDoor
