/-
  Part of the law ClauseAsks: a formula that may not be.
-/
import Derived.Test.YtdgmjdppiolkkaaClauW
import Derived.Test.YtdgmjdppiolkkaaClauR
import Derived.ProofKit
namespace Go.Proofs.Ytdgmjdppiolkkaa.clauseAsks
open Go.ChangeShapes Go.WideShapes Go.ChangeAt Go.RowKit
set_option linter.unusedVariables false

theorem revalB {A : Option Addr} {f : List (List Int)} {fcap : Nat} {B : Option Addr} {m : List Bool} {cap : Nat} {w : World} (hf : FormAt w A f) (hn : f.length ≤ 9223372036854775807) (hm : SeqAt Value.bool w B m) (hl : m.length ≤ 9223372036854775807) {r : Bool} (hr : evalM m f = r) :
    Calls Try.prog 14 #[.slice A f.length fcap, .slice B m.length cap] w fun e w' => e = .returned (.bool r) ∧ w = w' := by subst hr; exact reval_any A f fcap B m cap w hf hn hm hl
theorem inF_take {f : List (List Int)} {k : Nat} {c : List Int} (h : f[k]? = some c) (x : Int) : inF (f.take (k + 1)) x = (inF (f.take k) x || c.any fun l => l == x) := by
  have hk := List.getElem?_eq_some_iff.1 h
  obtain ⟨hk, hk'⟩ := hk
  unfold inF
  rw [List.take_succ_eq_append_getElem hk, List.any_append, hk']; simp
theorem any_one {c : List Int} {t : Nat} {l : Int} (h : c[t]? = some l) (x : Int) : ((c.take (t + 1)).any fun y => y == x) = (((c.take t).any fun y => y == x) || l == x) := any_take (p := fun y => y == x) h
theorem pureS {n : Int} {A : Option Addr} {f : List (List Int)} {fcap : Nat} {w : World} (hn : Wf n) (hf : FormAt w A f) (hl : f.length ≤ 9223372036854775807) {l : List Int} (h : (mayM n f = false ∧ l = []) ∨ (mayM n f = true ∧ ∃ N : Nat, n = N ∧ l = pureTo f N)) :
    Calls Try.prog 16 #[.int .i64 n, .slice A f.length fcap] w (PurePost l w) := by
  rcases h with ⟨h, rfl⟩ | ⟨h, N, rfl, rfl⟩
  · exact pure_no n A f fcap w hn hf hl h
  · exact pure_yes N A f fcap w hf hl h
theorem rmayB {n : Int} {A : Option Addr} {f : List (List Int)} {fcap : Nat} {w : World} (hn : Wf n) (hf : FormAt w A f) (hl : f.length ≤ 9223372036854775807) {r : Bool} (hr : mayM n f = r) :
    Calls Try.prog 11 #[.int .i64 n, .slice A f.length fcap] w fun e w' => e = .returned (.bool r) ∧ w = w' := by subst hr; exact rmay_any n A f fcap w hn hf hl
set_option maxHeartbeats 3200000 in
set_option maxRecDepth 100000 in
theorem walk_no (n : Int) (A : Option Addr) (f : List (List Int)) (cap : Nat) (B : Option Addr) (m : List Bool) (mcap : Nat) (w : World) (hn : Wf n) (HF : Hid (FormAt w A f)) (hl : f.length ≤ 9223372036854775807) (HM : Hid (SeqAt Value.bool w B m)) (hml : m.length ≤ 9223372036854775807) (hm' : (m.length : Int) ≤ 1000) (ht : Hid (mayM n f = false)) :
    Calls Try.prog 3 #[.int .i64 n, .slice A f.length cap, .slice B m.length mcap] w fun e w' => e = .returned (.bool true) ∧ Below w.heap.size w w' := by
  go_enter Try.func3, Try.ntmps3
  go_wp2_with fail
  refine (awake_any _).mono ?_
  rintro e w1 ⟨rfl, hb1⟩
  have HB1 := Lib.hid hb1
  have HF1 := Lib.hid (HF.out.keep hb1)
  have HM1 := Lib.hid (HM.out.keep hb1)
  clear hb1
  go_wp2_with fail
  refine (small_any A f cap 3000 w1 HF1.out hl).mono ?_
  rintro e w2 ⟨b, rfl, rfl⟩
  cases b with
  | false =>
    go_wp2_with fail
    go_ret
    exact ⟨rfl, HB1.out⟩
  | true =>
    go_wp2_with fail
    refine (rmayB hn HF1.out hl ht.out).mono ?_
    rintro e w2 ⟨rfl, rfl⟩
    go_wp2_with fail
    refine wp_loop_rounds 1 ?_
    rw [rounds_succ]
    go_wp2_with fail
    refine (mayB hn HF1.out hl ht.out).mono ?_
    rintro e w2 ⟨rfl, rfl⟩
    go_wp2_with fail
    refine (evalB HF1.out hl HM1.out hml rfl).mono ?_
    rintro e w2 ⟨rfl, hb2⟩
    have HB2 := Lib.hid (Below.on HB1.out hb2)
    have HF2 := Lib.hid (HF1.out.keep hb2)
    have HM2 := Lib.hid (HM1.out.keep hb2)
    clear hb2
    go_wp2_with fail
    refine (revalB HF2.out hl HM2.out hml rfl).mono ?_
    rintro e w3 ⟨rfl, rfl⟩
    have hq : (evalM m f == evalM m f) = true := by simp
    go_wp2_with fail
    refine (pureS hn HF2.out hl (.inl ⟨ht.out, rfl⟩)).mono ?_
    rintro e w3 ⟨P, pcap, rfl, hp, hb3⟩
    have HB3 := Lib.hid (Below.on HB2.out hb3)
    have HP := Lib.hid hp
    clear hp hb3
    go_wp2_with fail
    refine (sameB HP.out (SeqAt.nil _ _) (by decide) (by decide) (r := true) (by decide)).mono ?_
    rintro e w4 ⟨rfl, hb4⟩
    have HB4 := Lib.hid (Below.on HB3.out hb4)
    clear hb4
    go_wp2_with fail
    go_ret
    exact ⟨rfl, HB4.out⟩
end Go.Proofs.Ytdgmjdppiolkkaa.clauseAsks
