/-
  The document's example, as each of the laws asks it first; slices and formulas that a law lays itself.
-/
import Derived.Test.YtdgmjdppiolkkaaClauP
import Derived.Test.YtdgmjdppiolkkaaClauU
import Derived.Test.YtdgmjdppiolkkaaClauO
namespace Go.Proofs.Ytdgmjdppiolkkaa
open Go.ChangeShapes Go.WideShapes Go.ChangeAt Go.RowKit
set_option linter.unusedVariables false

theorem vals_at {α : Type} (v : α → Value) (w : World) (t : TypeId) (l : List α) : SeqAt v (w.alloc (.cells (l.map v).toArray t)) (some ⟨w.heap.size, 0, none⟩) l := by
  refine ⟨fun i z hz => ⟨_, rfl, ?_⟩⟩
  have e : (⟨w.heap.size, 0, none⟩ : Addr).add i = ⟨w.heap.size, i, none⟩ := by unfold Addr.add; split <;> simp_all
  rw [e, World.cell?_alloc_at _ _ _ _ rfl]
  simp [hz]
theorem lits_at (w : World) (t : TypeId) (l : List Int) : SeqAt (Value.int .i64) (w.alloc (.cells (ints l).toArray t)) (some ⟨w.heap.size, 0, none⟩) l := vals_at _ w t l
theorem vals_g {α : Type} (v : α → Value) {w : World} (t : TypeId) (l : List α) {g : Nat} (hg : w.heap.size = g) : SeqAt v (w.alloc (.cells (l.map v).toArray t)) (some ⟨g, 0, none⟩) l := by subst hg; exact vals_at v w t l
theorem one_form {w : World} {B : Option Addr} {c : List Int} {cap : Nat} (t : TypeId) {g : Nat} (hg : w.heap.size = g) (hs : SeqAt (Value.int .i64) w B c) (hl : c.length ≤ 9223372036854775807) (hw : ∀ l ∈ c, Wf l) :
    FormAt (w.alloc (.cells #[.slice B c.length cap] t)) (some ⟨g, 0, none⟩) [c] := by
  subst hg
  refine ⟨fun i d hd => ?_, fun a ha => by injection ha with ha; subst ha; simp, fun d hd => by simp at hd; subst hd; exact hw⟩
  have hi := (List.getElem?_eq_some_iff.1 hd).1
  obtain rfl : i = 0 := by simpa using hi
  simp at hd; subst hd
  exact ⟨_, B, cap, rfl, by rw [show (⟨w.heap.size, 0, none⟩ : Addr).add 0 = ⟨w.heap.size, 0, none⟩ from rfl, World.cell?_alloc_at _ _ _ _ rfl]; rfl, hs.keep ((Below.refl _ _).alloc (Nat.le_refl _) _), hl⟩
theorem two_form {w : World} {B C : Option Addr} {c d : List Int} {cap dap : Nat} (t : TypeId) {g : Nat} (hg : w.heap.size = g) (hs : SeqAt (Value.int .i64) w B c) (hl : c.length ≤ 9223372036854775807) (hw : ∀ l ∈ c, Wf l) (ks : SeqAt (Value.int .i64) w C d) (kl : d.length ≤ 9223372036854775807) (kw : ∀ l ∈ d, Wf l) :
    FormAt (w.alloc (.cells #[.slice B c.length cap, .slice C d.length dap] t)) (some ⟨g, 0, none⟩) [c, d] := by
  subst hg
  have hb : Below w.heap.size w (w.alloc (.cells #[.slice B c.length cap, .slice C d.length dap] t)) := (Below.refl _ _).alloc (Nat.le_refl _) _
  refine ⟨fun i e he => ?_, fun a ha => by injection ha with ha; subst ha; simp, fun e he => by simp at he; rcases he with rfl | rfl <;> assumption⟩
  match i, he with
  | 0, he => simp at he; subst he; exact ⟨_, B, cap, rfl, by rw [show (⟨w.heap.size, 0, none⟩ : Addr).add 0 = ⟨w.heap.size, 0, none⟩ from rfl, World.cell?_alloc_at _ _ _ _ rfl]; rfl, hs.keep hb, hl⟩
  | 1, he => simp at he; subst he; exact ⟨_, C, dap, rfl, by rw [show (⟨w.heap.size, 0, none⟩ : Addr).add 1 = ⟨w.heap.size, 1, none⟩ from rfl, World.cell?_alloc_at _ _ _ _ rfl]; rfl, ks.keep hb, kl⟩
theorem form_none (w : World) : FormAt w none [] := ⟨fun i c hc => by simp at hc, (fun a ha => by cases ha), (fun c hc => by cases hc)⟩
theorem sameB {A B : Option Addr} {a b : List Int} {acap bcap : Nat} {w : World} (ha : SeqAt (Value.int .i64) w A a) (hb : SeqAt (Value.int .i64) w B b) (la : a.length ≤ 9223372036854775807) (lb : b.length ≤ 9223372036854775807) {r : Bool} (hr : decide (a = b) = r) :
    Calls Try.prog 15 #[.slice A a.length acap, .slice B b.length bcap] w fun e w' => e = .returned (.bool r) ∧ Below w.heap.size w w' :=
  (same_any A B a b acap bcap w ha hb la lb).mono fun _ _ ⟨he, q, hw⟩ => ⟨by rw [he, hr], by rw [hw]; exact Below.draws (Below.refl _ _) q⟩
theorem mayB {n : Int} {A : Option Addr} {f : List (List Int)} {fcap : Nat} {w : World} (hn : Wf n) (hf : FormAt w A f) (hl : f.length ≤ 9223372036854775807) {r : Bool} (hr : mayM n f = r) :
    Calls Try.prog 12 #[.int .i64 n, .slice A f.length fcap] w fun e w' => e = .returned (.bool r) ∧ w = w' := by subst hr; exact may_any n A f fcap w hn hf hl
theorem evalB {A : Option Addr} {f : List (List Int)} {fcap : Nat} {B : Option Addr} {m : List Bool} {cap : Nat} {w : World} (hf : FormAt w A f) (hn : f.length ≤ 9223372036854775807) (hm : SeqAt Value.bool w B m) (hl : m.length ≤ 9223372036854775807) {r : Bool} (hr : evalM m f = r) :
    Calls Try.prog 13 #[.slice A f.length fcap, .slice B m.length cap] w fun e w' => e = .returned (.bool r) ∧ Below w.heap.size w w' := by subst hr; exact eval_any A f fcap B m cap w hf hn hm hl
def NormP (p : List Int × Bool) (w : World) (e : Ending) (w' : World) : Prop := ∃ A cap, e = .returned (.tuple #[.slice A p.1.length cap, .bool p.2]) ∧ SeqAt (Value.int .i64) w' A p.1 ∧ Below w.heap.size w w'
theorem normB {A : Option Addr} {c : List Int} {cap : Nat} {w : World} (hc : SeqAt (Value.int .i64) w A c) (hw : ∀ l ∈ c, Wf l) (hn : c.length ≤ 100000) {p : List Int × Bool} (hp : nrm c = p) :
    Calls Try.prog 17 #[.slice A c.length cap] w (NormP p w) := by subst hp; exact normal_any A c cap w hc hw hn
theorem below_alloc (w : World) (o : Obj) : Below w.heap.size w (w.alloc o) := (Below.refl _ _).alloc (Nat.le_refl _) o
theorem Below.plus {w w' : World} (h : Below w.heap.size w w') (o : Obj) : Below w.heap.size w (w'.alloc o) := h.alloc h.size o
theorem Below.on {w w' w'' : World} (h : Below w.heap.size w w') (k : Below w'.heap.size w' w'') : Below w.heap.size w w'' := h.trans (k.mono h.size)
theorem wfs {l : List Int} (h : l.all (fun x => decide (-9223372036854775808 ≤ x ∧ x ≤ 9223372036854775807)) = true) : ∀ x ∈ l, Wf x := fun x hx => by
  exact (of_decide_eq_true (List.all_eq_true.1 h x hx) : -9223372036854775808 ≤ x ∧ x ≤ 9223372036854775807)
set_option maxHeartbeats 1600000 in
theorem awake_any (w : World) : Calls Try.prog 9 #[] w fun e w' => e = .returned (.bool true) ∧ Below w.heap.size w w' := by
  go_enter Try.func9, Try.ntmps9
  go_wp2_with fail
  refine (normB (A := some ⟨w.heap.size, 0, none⟩) (c := [3, -1, 3]) (lits_at w 3 [3, -1, 3]) (wfs (by decide)) (by decide) (p := ([-1, 3], false)) (by decide)).mono ?_
  rintro e w1 ⟨A, cap, rfl, hs, hb⟩
  have HB := Lib.hid (Below.on (below_alloc w _) hb)
  have HS := Lib.hid hs
  clear hs hb
  go_wp2_with fail
  refine (sameB (B := some ⟨w1.heap.size, 0, none⟩) (b := [-1, 3]) (HS.out.keep (below_alloc w1 _)) (lits_at w1 3 [-1, 3]) (by decide) (by decide) (r := true) (by decide)).mono ?_
  rintro e w2 ⟨rfl, hb⟩
  have HB2 := Lib.hid (Below.on (Below.plus HB.out _) hb)
  clear hb
  go_wp2_with fail
  refine (mayB (A := some ⟨w2.heap.size + 1, 0, none⟩) (f := [[1, -3]]) (by unfold Wf; omega) (one_form (cap := 2) 27 (by simp) (lits_at w2 3 [1, -3]) (by decide) (wfs (by decide))) (by decide) (r := true) (by decide)).mono ?_
  rintro e w3 ⟨rfl, rfl⟩
  go_wp2_with fail
  have HB3 := Lib.hid (Below.plus (Below.plus HB2.out (.cells #[.int .i64 1, .int .i64 (-3)] 3)) (.cells #[.slice (some ⟨w2.heap.size, 0, none⟩) 2 2] 27))
  have hz : ((w2.alloc (.cells #[.int .i64 1, .int .i64 (-3)] 3)).alloc (.cells #[.slice (some ⟨w2.heap.size, 0, none⟩) 2 2] 27)).heap.size = w2.heap.size + 1 + 1 := by simp
  have HZ := Lib.hid hz
  clear hz
  generalize (w2.alloc (.cells #[.int .i64 1, .int .i64 (-3)] 3)).alloc (.cells #[.slice (some ⟨w2.heap.size, 0, none⟩) 2 2] 27) = w3 at HB3 HZ ⊢
  have f1 : FormAt ((w3.alloc (.cells #[.int .i64 1, .int .i64 (-2)] 3)).alloc (.cells #[.slice (some ⟨w2.heap.size + 1 + 1, 0, none⟩) 2 2] 27)) (some ⟨w2.heap.size + 1 + 1 + 1, 0, none⟩) [[1, -2]] :=
    one_form (cap := 2) 27 (by simp [HZ.out]) (vals_g _ (w := w3) 3 [1, -2] HZ.out) (by decide) (wfs (by decide))
  have f2 := f1.keep (below_alloc _ (.cells #[.bool false, .bool false] 4))
  have f3 : SeqAt Value.bool _ (some ⟨w2.heap.size + 1 + 1 + 1 + 1, 0, none⟩) [false, false] := vals_g Value.bool (w := (w3.alloc (.cells #[.int .i64 1, .int .i64 (-2)] 3)).alloc (.cells #[.slice (some ⟨w2.heap.size + 1 + 1, 0, none⟩) 2 2] 27)) 4 [false, false] (by simp [HZ.out])
  refine (evalB f2 (by decide) f3 (by decide) (r := true) (by decide)).mono ?_
  rintro e w4 ⟨rfl, hb⟩
  have HB4 := Lib.hid (Below.on (Below.plus (Below.plus (Below.plus HB3.out _) _) _) hb)
  clear hb f1 f2 f3
  go_wp2_with fail
  go_ret
  exact ⟨rfl, HB4.out⟩
end Go.Proofs.Ytdgmjdppiolkkaa
