/-
  Value and Values of the law's package: what a made term is worth by the values of its parts.
-/
import Derived.Test.YtgbmiphaabeodaaDoorTermB
import Derived.Test.YtgbmiphaabeodaaDoorTermA
import Derived.BigQuiet
import Derived.Deep.QuietTactic
import Derived.Lib.Hide
namespace Go.Proofs.YtgbmiphaabeodaaDoor
open Go.ChangeShapes Go.WideShapes Go.ChangeAt Go.RowKit
set_option linter.unusedVariables false
attribute [local go_sem ↓] Go.wp_at_zero Go.wp_at_succ

def ValPost (w : World) (x : Int) (e : Ending) (w' : World) : Prop := e = .returned (.int .u16 x) ∧ Below w.heap.size w w'
theorem EnvAt.at {w : World} {A : Option Addr} {env : List Int} (h : EnvAt w A env) {i : Nat} (hi : i < env.length) : ∃ ad : Addr, A = some ad ∧ ad.block < w.heap.size ∧ w.cell? (ad.add i) = some (.int .u16 (env.getD i 0)) ∧ 0 ≤ env.getD i 0 ∧ env.getD i 0 ≤ 65535 := by
  obtain ⟨ad, rfl, hcell⟩ := h.get i _ (List.getElem?_eq_getElem hi)
  have hr := h.rng _ (List.getElem_mem hi)
  have e : env.getD i 0 = env[i] := by rw [List.getD_eq_getElem?_getD, List.getElem?_eq_getElem hi]; rfl
  rw [e]
  exact ⟨ad, rfl, h.lt ad rfl, hcell, hr⟩
section
variable (w : World) (base i lcap vcap ecap : Nat) (LA VA EA : Option Addr) (ms : List Md) (xs env : List Int) (t op wd val ra rb rc mw : Int) (i0 i1 i2 : Nat)
def VFrame : Prop := w.ownsRow base 38 11 (.slice LA ms.length lcap) ms.length (mdCells ms) ∧ ms[i]? = some ⟨t, ⟨op, wd, val, ra, rb, rc⟩, mw, i0, i1, i2⟩ ∧ EnvAt w VA xs ∧ EnvAt w EA env ∧ xs.length = i ∧ mayw mw
end
variable {w : World} {base i lcap vcap ecap : Nat} {LA VA EA : Option Addr} {ms : List Md} {xs env : List Int} {t op wd val ra rb rc mw : Int} {i0 i1 i2 : Nat}
set_option maxHeartbeats 1600000 in
set_option maxRecDepth 100000 in
theorem val_const (h : VFrame w base i lcap LA VA EA ms xs env t op wd val ra rb rc mw i0 i1 i2) (ho : op = 1) (v0 : 0 ≤ val) (v1 : val ≤ 65535) :
    Calls Tryd.prog 32 #[.slice LA ms.length lcap, .slice VA xs.length vcap, .int .i64 i, .slice EA env.length ecap] w (ValPost w (low mw val)) := by
  obtain ⟨hrow, hm, hxs, henv, hxl, hmw⟩ := h
  have hil : i < ms.length := (List.getElem?_eq_some_iff.1 hm).1
  obtain ⟨lg, lc, hLA, hlg, hlb, hlc1, hlc2, hc0⟩ := row_md hrow hm
  injection hLA with h1 h2 h3
  subst h1; subst h3
  have a0 : w.cell? ⟨lg, i * 11, none⟩ = some (.int .i64 t) := hc0 0 (by decide)
  have a1 : w.cell? ⟨lg, i * 11 + 1, none⟩ = some (.int .i64 op) := hc0 1 (by decide)
  have a2 : w.cell? ⟨lg, i * 11 + 2, none⟩ = some (.int .i64 wd) := hc0 2 (by decide)
  have a3 : w.cell? ⟨lg, i * 11 + 3, none⟩ = some (.int .u16 val) := hc0 3 (by decide)
  have a4 : w.cell? ⟨lg, i * 11 + 4, none⟩ = some (.int .u8 ra) := hc0 4 (by decide)
  have a5 : w.cell? ⟨lg, i * 11 + 5, none⟩ = some (.int .u8 rb) := hc0 5 (by decide)
  have a6 : w.cell? ⟨lg, i * 11 + 6, none⟩ = some (.int .u8 rc) := hc0 6 (by decide)
  have a7 : w.cell? ⟨lg, i * 11 + 7, none⟩ = some (.int .i64 mw) := hc0 7 (by decide)
  have a8 : w.cell? ⟨lg, i * 11 + 8, none⟩ = some (.int .i64 i0) := hc0 8 (by decide)
  have a9 : w.cell? ⟨lg, i * 11 + 9, none⟩ = some (.int .i64 i1) := hc0 9 (by decide)
  have a10 : w.cell? ⟨lg, i * 11 + 10, none⟩ = some (.int .i64 i2) := hc0 10 (by decide)
  unfold maxLen at hlc2
  generalize ms.length = len at hil hlc1 ⊢
  clear hrow hm hc0 h2
  subst ho
  have HXS := Lib.hid hxs
  have HEN := Lib.hid henv
  have HXL := Lib.hid hxl
  clear hxs henv hxl
  have E := Lib.hid (u16_mask hmw val v0 v1)
  generalize xs.length = xl
  generalize env.length = el
  go_enter Tryd.func32, Tryd.ntmps32
  go_wp2_with fail
  refine (rmask_yes _ _ hmw).mono ?_
  rintro e w' ⟨rfl, rfl⟩
  go_wp2_with fail
  go_ret
  exact ⟨by show Ending.returned (Value.int .u16 (bits .and .u16 val (mask mw))) = _; rw [E.out]; rfl, (by repeat (first | exact Below.refl _ _ | refine below_drewN ?_ _ | refine Below.alloc ?_ (by first | omega | (simp; done) | (simp; omega)) _ | refine Below.drew ?_ | refine Below.setCell ?_ (by first | omega | (simp; done) | (simp; omega)) _))⟩
set_option maxHeartbeats 1600000 in
set_option maxRecDepth 100000 in
theorem val_var (h : VFrame w base i lcap LA VA EA ms xs env t op wd val ra rb rc mw i0 i1 i2) (ho : op = 2) (v0 : 0 ≤ val) (v1 : val ≤ 65535) :
    Calls Tryd.prog 32 #[.slice LA ms.length lcap, .slice VA xs.length vcap, .int .i64 i, .slice EA env.length ecap] w (ValPost w (low mw (env.getD val.toNat 0))) := by
  obtain ⟨hrow, hm, hxs, henv, hxl, hmw⟩ := h
  have hil : i < ms.length := (List.getElem?_eq_some_iff.1 hm).1
  obtain ⟨lg, lc, hLA, hlg, hlb, hlc1, hlc2, hc0⟩ := row_md hrow hm
  injection hLA with h1 h2 h3
  subst h1; subst h3
  have a0 : w.cell? ⟨lg, i * 11, none⟩ = some (.int .i64 t) := hc0 0 (by decide)
  have a1 : w.cell? ⟨lg, i * 11 + 1, none⟩ = some (.int .i64 op) := hc0 1 (by decide)
  have a2 : w.cell? ⟨lg, i * 11 + 2, none⟩ = some (.int .i64 wd) := hc0 2 (by decide)
  have a3 : w.cell? ⟨lg, i * 11 + 3, none⟩ = some (.int .u16 val) := hc0 3 (by decide)
  have a4 : w.cell? ⟨lg, i * 11 + 4, none⟩ = some (.int .u8 ra) := hc0 4 (by decide)
  have a5 : w.cell? ⟨lg, i * 11 + 5, none⟩ = some (.int .u8 rb) := hc0 5 (by decide)
  have a6 : w.cell? ⟨lg, i * 11 + 6, none⟩ = some (.int .u8 rc) := hc0 6 (by decide)
  have a7 : w.cell? ⟨lg, i * 11 + 7, none⟩ = some (.int .i64 mw) := hc0 7 (by decide)
  have a8 : w.cell? ⟨lg, i * 11 + 8, none⟩ = some (.int .i64 i0) := hc0 8 (by decide)
  have a9 : w.cell? ⟨lg, i * 11 + 9, none⟩ = some (.int .i64 i1) := hc0 9 (by decide)
  have a10 : w.cell? ⟨lg, i * 11 + 10, none⟩ = some (.int .i64 i2) := hc0 10 (by decide)
  unfold maxLen at hlc2
  generalize ms.length = len at hil hlc1 ⊢
  clear hrow hm hc0 h2
  subst ho
  obtain ⟨id, rfl⟩ := Int.eq_ofNat_of_zero_le v0
  have v1' : (id : Int) ≤ 65535 := v1
  clear v0 v1
  have hel := henv.len
  by_cases hi : id < env.length
  · obtain ⟨ad, rfl, hadlt, hcell, u0, u1⟩ := henv.at hi
    have E := Lib.hid (u16_mask hmw (env.getD id 0) u0 u1)
    have HXS := Lib.hid hxs
    have HEN := Lib.hid henv
    have HXL := Lib.hid hxl
    clear hxs henv hxl
    have e2 := Lib.hid (show env.getD (id : Int).toNat 0 = env.getD id 0 by rw [Int.toNat_natCast])
    generalize env.getD id 0 = u at hcell u0 u1 E e2
    generalize xs.length = xl
    generalize env.length = el at *
    have hcA := fun o => (World.cell?_alloc_lt w o (ad.add id) (by rw [add_block]; exact hadlt)).trans hcell
    clear hcell
    go_enter Tryd.func32, Tryd.ntmps32
    go_wp2_with fail
    refine (rmask_yes _ _ hmw).mono ?_
    rintro e w' ⟨rfl, rfl⟩
    go_wp2_with fail
    go_ret
    exact ⟨by rw [e2.out]; show Ending.returned (Value.int .u16 (bits .and .u16 u (mask mw))) = _; rw [E.out]; rfl, (by repeat (first | exact Below.refl _ _ | refine below_drewN ?_ _ | refine Below.alloc ?_ (by first | omega | (simp; done) | (simp; omega)) _ | refine Below.drew ?_ | refine Below.setCell ?_ (by first | omega | (simp; done) | (simp; omega)) _))⟩
  · have e1 := Lib.hid (show low mw (env.getD (id : Int).toNat 0) = 0 by rw [Int.toNat_natCast, List.getD_eq_getElem?_getD, List.getElem?_eq_none (by omega)]; rcases pw_cases hmw with ⟨_, p⟩ | ⟨_, p⟩ | ⟨_, p⟩ <;> simp [low, p])
    have hi' : env.length ≤ id := by omega
    clear hi
    have HXS := Lib.hid hxs
    have HEN := Lib.hid henv
    have HXL := Lib.hid hxl
    clear hxs henv hxl
    generalize env.length = el at *
    generalize xs.length = xl
    go_enter Tryd.func32, Tryd.ntmps32
    go_wp2_with fail
    refine (rmask_yes _ _ hmw).mono ?_
    rintro e w' ⟨rfl, rfl⟩
    go_wp2_with fail
    go_ret
    exact ⟨by rw [e1.out]; rfl, (by repeat (first | exact Below.refl _ _ | refine below_drewN ?_ _ | refine Below.alloc ?_ (by first | omega | (simp; done) | (simp; omega)) _ | refine Below.drew ?_ | refine Below.setCell ?_ (by first | omega | (simp; done) | (simp; omega)) _))⟩
set_option maxHeartbeats 1600000 in
set_option maxRecDepth 100000 in
theorem val_ite1 (h : VFrame w base i lcap LA VA EA ms xs env t op wd val ra rb rc mw i0 i1 i2) (ho : op = 16) (hp : i0 < i ∧ i1 < i ∧ i2 < i) (hx : xs.getD i0 0 = 1) :
    Calls Tryd.prog 32 #[.slice LA ms.length lcap, .slice VA xs.length vcap, .int .i64 i, .slice EA env.length ecap] w (ValPost w (xs.getD i1 0)) := by
  obtain ⟨hrow, hm, hxs, henv, hxl, hmw⟩ := h
  have hil : i < ms.length := (List.getElem?_eq_some_iff.1 hm).1
  obtain ⟨lg, lc, hLA, hlg, hlb, hlc1, hlc2, hc0⟩ := row_md hrow hm
  injection hLA with h1 h2 h3
  subst h1; subst h3
  have a0 : w.cell? ⟨lg, i * 11, none⟩ = some (.int .i64 t) := hc0 0 (by decide)
  have a1 : w.cell? ⟨lg, i * 11 + 1, none⟩ = some (.int .i64 op) := hc0 1 (by decide)
  have a2 : w.cell? ⟨lg, i * 11 + 2, none⟩ = some (.int .i64 wd) := hc0 2 (by decide)
  have a3 : w.cell? ⟨lg, i * 11 + 3, none⟩ = some (.int .u16 val) := hc0 3 (by decide)
  have a4 : w.cell? ⟨lg, i * 11 + 4, none⟩ = some (.int .u8 ra) := hc0 4 (by decide)
  have a5 : w.cell? ⟨lg, i * 11 + 5, none⟩ = some (.int .u8 rb) := hc0 5 (by decide)
  have a6 : w.cell? ⟨lg, i * 11 + 6, none⟩ = some (.int .u8 rc) := hc0 6 (by decide)
  have a7 : w.cell? ⟨lg, i * 11 + 7, none⟩ = some (.int .i64 mw) := hc0 7 (by decide)
  have a8 : w.cell? ⟨lg, i * 11 + 8, none⟩ = some (.int .i64 i0) := hc0 8 (by decide)
  have a9 : w.cell? ⟨lg, i * 11 + 9, none⟩ = some (.int .i64 i1) := hc0 9 (by decide)
  have a10 : w.cell? ⟨lg, i * 11 + 10, none⟩ = some (.int .i64 i2) := hc0 10 (by decide)
  unfold maxLen at hlc2
  generalize ms.length = len at hil hlc1 ⊢
  clear hrow hm hc0 h2
  subst ho
  obtain ⟨ad, rfl, hadlt, q0, x0, x0'⟩ := hxs.at (show i0 < xs.length by omega)
  obtain ⟨ad1, hA1, _, q1, x1, x1'⟩ := hxs.at (show i1 < xs.length by omega)
  obtain ⟨ad2, hA2, _, q2, x2, x2'⟩ := hxs.at (show i2 < xs.length by omega)
  injection hA1 with hA1; subst hA1
  injection hA2 with hA2; subst hA2
  have hxlen := hxs.len
  have l0 : i0 < xs.length := by omega
  have l1 : i1 < xs.length := by omega
  have l2 : i2 < xs.length := by omega
  have HXS := Lib.hid hxs
  have HEN := Lib.hid henv
  have HXL := Lib.hid hxl
  clear hxs henv hxl
  generalize xs.getD i0 0 = x at q0 x0 x0' hx ⊢
  generalize xs.getD i1 0 = y at q1 x1 x1' ⊢
  generalize xs.getD i2 0 = z at q2 x2 x2' ⊢
  generalize xs.length = xl at *
  generalize env.length = el
  have hc0 := fun o => (World.cell?_alloc_lt w o (ad.add i0) (by rw [add_block]; exact hadlt)).trans q0
  have hc1 := fun o => (World.cell?_alloc_lt w o (ad.add i1) (by rw [add_block]; exact hadlt)).trans q1
  have hc2 := fun o => (World.cell?_alloc_lt w o (ad.add i2) (by rw [add_block]; exact hadlt)).trans q2
  clear q0 q1 q2
  have t1 : ((x : Int) == 1) = true := by simpa using hx
  clear hx
  go_enter Tryd.func32, Tryd.ntmps32
  go_wp2_with fail
  go_quiet (fail)
  go_wp2_with fail
  refine (rmask_yes _ _ hmw).mono ?_
  rintro e w' ⟨rfl, rfl⟩
  go_wp2_with fail
  go_ret
  exact ⟨rfl, (by repeat (first | exact Below.refl _ _ | refine below_drewN ?_ _ | refine Below.alloc ?_ (by first | omega | (simp; done) | (simp; omega)) _ | refine Below.drew ?_ | refine Below.setCell ?_ (by first | omega | (simp; done) | (simp; omega)) _))⟩
set_option maxHeartbeats 1600000 in
set_option maxRecDepth 100000 in
theorem val_ite2 (h : VFrame w base i lcap LA VA EA ms xs env t op wd val ra rb rc mw i0 i1 i2) (ho : op = 16) (hp : i0 < i ∧ i1 < i ∧ i2 < i) (hx : xs.getD i0 0 ≠ 1) :
    Calls Tryd.prog 32 #[.slice LA ms.length lcap, .slice VA xs.length vcap, .int .i64 i, .slice EA env.length ecap] w (ValPost w (xs.getD i2 0)) := by
  obtain ⟨hrow, hm, hxs, henv, hxl, hmw⟩ := h
  have hil : i < ms.length := (List.getElem?_eq_some_iff.1 hm).1
  obtain ⟨lg, lc, hLA, hlg, hlb, hlc1, hlc2, hc0⟩ := row_md hrow hm
  injection hLA with h1 h2 h3
  subst h1; subst h3
  have a0 : w.cell? ⟨lg, i * 11, none⟩ = some (.int .i64 t) := hc0 0 (by decide)
  have a1 : w.cell? ⟨lg, i * 11 + 1, none⟩ = some (.int .i64 op) := hc0 1 (by decide)
  have a2 : w.cell? ⟨lg, i * 11 + 2, none⟩ = some (.int .i64 wd) := hc0 2 (by decide)
  have a3 : w.cell? ⟨lg, i * 11 + 3, none⟩ = some (.int .u16 val) := hc0 3 (by decide)
  have a4 : w.cell? ⟨lg, i * 11 + 4, none⟩ = some (.int .u8 ra) := hc0 4 (by decide)
  have a5 : w.cell? ⟨lg, i * 11 + 5, none⟩ = some (.int .u8 rb) := hc0 5 (by decide)
  have a6 : w.cell? ⟨lg, i * 11 + 6, none⟩ = some (.int .u8 rc) := hc0 6 (by decide)
  have a7 : w.cell? ⟨lg, i * 11 + 7, none⟩ = some (.int .i64 mw) := hc0 7 (by decide)
  have a8 : w.cell? ⟨lg, i * 11 + 8, none⟩ = some (.int .i64 i0) := hc0 8 (by decide)
  have a9 : w.cell? ⟨lg, i * 11 + 9, none⟩ = some (.int .i64 i1) := hc0 9 (by decide)
  have a10 : w.cell? ⟨lg, i * 11 + 10, none⟩ = some (.int .i64 i2) := hc0 10 (by decide)
  unfold maxLen at hlc2
  generalize ms.length = len at hil hlc1 ⊢
  clear hrow hm hc0 h2
  subst ho
  obtain ⟨ad, rfl, hadlt, q0, x0, x0'⟩ := hxs.at (show i0 < xs.length by omega)
  obtain ⟨ad1, hA1, _, q1, x1, x1'⟩ := hxs.at (show i1 < xs.length by omega)
  obtain ⟨ad2, hA2, _, q2, x2, x2'⟩ := hxs.at (show i2 < xs.length by omega)
  injection hA1 with hA1; subst hA1
  injection hA2 with hA2; subst hA2
  have hxlen := hxs.len
  have l0 : i0 < xs.length := by omega
  have l1 : i1 < xs.length := by omega
  have l2 : i2 < xs.length := by omega
  have HXS := Lib.hid hxs
  have HEN := Lib.hid henv
  have HXL := Lib.hid hxl
  clear hxs henv hxl
  generalize xs.getD i0 0 = x at q0 x0 x0' hx ⊢
  generalize xs.getD i1 0 = y at q1 x1 x1' ⊢
  generalize xs.getD i2 0 = z at q2 x2 x2' ⊢
  generalize xs.length = xl at *
  generalize env.length = el
  have hc0 := fun o => (World.cell?_alloc_lt w o (ad.add i0) (by rw [add_block]; exact hadlt)).trans q0
  have hc1 := fun o => (World.cell?_alloc_lt w o (ad.add i1) (by rw [add_block]; exact hadlt)).trans q1
  have hc2 := fun o => (World.cell?_alloc_lt w o (ad.add i2) (by rw [add_block]; exact hadlt)).trans q2
  clear q0 q1 q2
  have t1 : ((x : Int) == 1) = false := by simpa using hx
  clear hx
  go_enter Tryd.func32, Tryd.ntmps32
  go_wp2_with fail
  go_quiet (fail)
  go_wp2_with fail
  refine (rmask_yes _ _ hmw).mono ?_
  rintro e w' ⟨rfl, rfl⟩
  go_wp2_with fail
  go_ret
  exact ⟨rfl, (by repeat (first | exact Below.refl _ _ | refine below_drewN ?_ _ | refine Below.alloc ?_ (by first | omega | (simp; done) | (simp; omega)) _ | refine Below.drew ?_ | refine Below.setCell ?_ (by first | omega | (simp; done) | (simp; omega)) _))⟩
set_option maxHeartbeats 1600000 in
set_option maxRecDepth 100000 in
theorem val_ext (h : VFrame w base i lcap LA VA EA ms xs env t op wd val ra rb rc mw i0 i1 i2) (ho : op = 17) (hp : i0 < i ∧ i1 < i ∧ i2 < i) :
    Calls Tryd.prog 32 #[.slice LA ms.length lcap, .slice VA xs.length vcap, .int .i64 i, .slice EA env.length ecap] w (ValPost w (low mw (xs.getD i0 0))) := by
  obtain ⟨hrow, hm, hxs, henv, hxl, hmw⟩ := h
  have hil : i < ms.length := (List.getElem?_eq_some_iff.1 hm).1
  obtain ⟨lg, lc, hLA, hlg, hlb, hlc1, hlc2, hc0⟩ := row_md hrow hm
  injection hLA with h1 h2 h3
  subst h1; subst h3
  have a0 : w.cell? ⟨lg, i * 11, none⟩ = some (.int .i64 t) := hc0 0 (by decide)
  have a1 : w.cell? ⟨lg, i * 11 + 1, none⟩ = some (.int .i64 op) := hc0 1 (by decide)
  have a2 : w.cell? ⟨lg, i * 11 + 2, none⟩ = some (.int .i64 wd) := hc0 2 (by decide)
  have a3 : w.cell? ⟨lg, i * 11 + 3, none⟩ = some (.int .u16 val) := hc0 3 (by decide)
  have a4 : w.cell? ⟨lg, i * 11 + 4, none⟩ = some (.int .u8 ra) := hc0 4 (by decide)
  have a5 : w.cell? ⟨lg, i * 11 + 5, none⟩ = some (.int .u8 rb) := hc0 5 (by decide)
  have a6 : w.cell? ⟨lg, i * 11 + 6, none⟩ = some (.int .u8 rc) := hc0 6 (by decide)
  have a7 : w.cell? ⟨lg, i * 11 + 7, none⟩ = some (.int .i64 mw) := hc0 7 (by decide)
  have a8 : w.cell? ⟨lg, i * 11 + 8, none⟩ = some (.int .i64 i0) := hc0 8 (by decide)
  have a9 : w.cell? ⟨lg, i * 11 + 9, none⟩ = some (.int .i64 i1) := hc0 9 (by decide)
  have a10 : w.cell? ⟨lg, i * 11 + 10, none⟩ = some (.int .i64 i2) := hc0 10 (by decide)
  unfold maxLen at hlc2
  generalize ms.length = len at hil hlc1 ⊢
  clear hrow hm hc0 h2
  subst ho
  obtain ⟨ad, rfl, hadlt, q0, x0, x0'⟩ := hxs.at (show i0 < xs.length by omega)
  obtain ⟨ad1, hA1, _, q1, x1, x1'⟩ := hxs.at (show i1 < xs.length by omega)
  obtain ⟨ad2, hA2, _, q2, x2, x2'⟩ := hxs.at (show i2 < xs.length by omega)
  injection hA1 with hA1; subst hA1
  injection hA2 with hA2; subst hA2
  have hxlen := hxs.len
  have l0 : i0 < xs.length := by omega
  have l1 : i1 < xs.length := by omega
  have l2 : i2 < xs.length := by omega
  have HXS := Lib.hid hxs
  have HEN := Lib.hid henv
  have HXL := Lib.hid hxl
  clear hxs henv hxl
  generalize xs.getD i0 0 = x at q0 x0 x0' ⊢
  generalize xs.getD i1 0 = y at q1 x1 x1' ⊢
  generalize xs.getD i2 0 = z at q2 x2 x2' ⊢
  generalize xs.length = xl at *
  generalize env.length = el
  have hc0 := fun o => (World.cell?_alloc_lt w o (ad.add i0) (by rw [add_block]; exact hadlt)).trans q0
  have hc1 := fun o => (World.cell?_alloc_lt w o (ad.add i1) (by rw [add_block]; exact hadlt)).trans q1
  have hc2 := fun o => (World.cell?_alloc_lt w o (ad.add i2) (by rw [add_block]; exact hadlt)).trans q2
  clear q0 q1 q2
  have E := Lib.hid (u16_mask hmw x x0 x0')
  go_enter Tryd.func32, Tryd.ntmps32
  go_wp2_with fail
  go_quiet (fail)
  go_wp2_with fail
  refine (rmask_yes _ _ hmw).mono ?_
  rintro e w' ⟨rfl, rfl⟩
  go_wp2_with fail
  go_ret
  exact ⟨by show Ending.returned (Value.int .u16 (bits .and .u16 x (mask mw))) = _; rw [E.out]; rfl, (by repeat (first | exact Below.refl _ _ | refine below_drewN ?_ _ | refine Below.alloc ?_ (by first | omega | (simp; done) | (simp; omega)) _ | refine Below.drew ?_ | refine Below.setCell ?_ (by first | omega | (simp; done) | (simp; omega)) _))⟩
set_option maxHeartbeats 1600000 in
set_option maxRecDepth 100000 in
theorem val_cut (h : VFrame w base i lcap LA VA EA ms xs env t op wd val ra rb rc mw i0 i1 i2) (ho : op = 18) (hp : i0 < i ∧ i1 < i ∧ i2 < i) :
    Calls Tryd.prog 32 #[.slice LA ms.length lcap, .slice VA xs.length vcap, .int .i64 i, .slice EA env.length ecap] w (ValPost w (low mw (xs.getD i0 0))) := by
  obtain ⟨hrow, hm, hxs, henv, hxl, hmw⟩ := h
  have hil : i < ms.length := (List.getElem?_eq_some_iff.1 hm).1
  obtain ⟨lg, lc, hLA, hlg, hlb, hlc1, hlc2, hc0⟩ := row_md hrow hm
  injection hLA with h1 h2 h3
  subst h1; subst h3
  have a0 : w.cell? ⟨lg, i * 11, none⟩ = some (.int .i64 t) := hc0 0 (by decide)
  have a1 : w.cell? ⟨lg, i * 11 + 1, none⟩ = some (.int .i64 op) := hc0 1 (by decide)
  have a2 : w.cell? ⟨lg, i * 11 + 2, none⟩ = some (.int .i64 wd) := hc0 2 (by decide)
  have a3 : w.cell? ⟨lg, i * 11 + 3, none⟩ = some (.int .u16 val) := hc0 3 (by decide)
  have a4 : w.cell? ⟨lg, i * 11 + 4, none⟩ = some (.int .u8 ra) := hc0 4 (by decide)
  have a5 : w.cell? ⟨lg, i * 11 + 5, none⟩ = some (.int .u8 rb) := hc0 5 (by decide)
  have a6 : w.cell? ⟨lg, i * 11 + 6, none⟩ = some (.int .u8 rc) := hc0 6 (by decide)
  have a7 : w.cell? ⟨lg, i * 11 + 7, none⟩ = some (.int .i64 mw) := hc0 7 (by decide)
  have a8 : w.cell? ⟨lg, i * 11 + 8, none⟩ = some (.int .i64 i0) := hc0 8 (by decide)
  have a9 : w.cell? ⟨lg, i * 11 + 9, none⟩ = some (.int .i64 i1) := hc0 9 (by decide)
  have a10 : w.cell? ⟨lg, i * 11 + 10, none⟩ = some (.int .i64 i2) := hc0 10 (by decide)
  unfold maxLen at hlc2
  generalize ms.length = len at hil hlc1 ⊢
  clear hrow hm hc0 h2
  subst ho
  obtain ⟨ad, rfl, hadlt, q0, x0, x0'⟩ := hxs.at (show i0 < xs.length by omega)
  obtain ⟨ad1, hA1, _, q1, x1, x1'⟩ := hxs.at (show i1 < xs.length by omega)
  obtain ⟨ad2, hA2, _, q2, x2, x2'⟩ := hxs.at (show i2 < xs.length by omega)
  injection hA1 with hA1; subst hA1
  injection hA2 with hA2; subst hA2
  have hxlen := hxs.len
  have l0 : i0 < xs.length := by omega
  have l1 : i1 < xs.length := by omega
  have l2 : i2 < xs.length := by omega
  have HXS := Lib.hid hxs
  have HEN := Lib.hid henv
  have HXL := Lib.hid hxl
  clear hxs henv hxl
  generalize xs.getD i0 0 = x at q0 x0 x0' ⊢
  generalize xs.getD i1 0 = y at q1 x1 x1' ⊢
  generalize xs.getD i2 0 = z at q2 x2 x2' ⊢
  generalize xs.length = xl at *
  generalize env.length = el
  have hc0 := fun o => (World.cell?_alloc_lt w o (ad.add i0) (by rw [add_block]; exact hadlt)).trans q0
  have hc1 := fun o => (World.cell?_alloc_lt w o (ad.add i1) (by rw [add_block]; exact hadlt)).trans q1
  have hc2 := fun o => (World.cell?_alloc_lt w o (ad.add i2) (by rw [add_block]; exact hadlt)).trans q2
  clear q0 q1 q2
  have E := Lib.hid (u16_mask hmw x x0 x0')
  go_enter Tryd.func32, Tryd.ntmps32
  go_wp2_with fail
  go_quiet (fail)
  go_wp2_with fail
  refine (rmask_yes _ _ hmw).mono ?_
  rintro e w' ⟨rfl, rfl⟩
  go_wp2_with fail
  go_ret
  exact ⟨by show Ending.returned (Value.int .u16 (bits .and .u16 x (mask mw))) = _; rw [E.out]; rfl, (by repeat (first | exact Below.refl _ _ | refine below_drewN ?_ _ | refine Below.alloc ?_ (by first | omega | (simp; done) | (simp; omega)) _ | refine Below.drew ?_ | refine Below.setCell ?_ (by first | omega | (simp; done) | (simp; omega)) _))⟩
set_option maxHeartbeats 1600000 in
set_option maxRecDepth 100000 in
theorem val_two (h : VFrame w base i lcap LA VA EA ms xs env t op wd val ra rb rc mw i0 i1 i2) (h3 : 3 ≤ op) (h15 : op ≤ 15) (hp : i0 < i ∧ i1 < i ∧ i2 < i) {m0 : Md} (hm0 : ms[i0]? = some m0) (hw0 : mayw m0.w) :
    Calls Tryd.prog 32 #[.slice LA ms.length lcap, .slice VA xs.length vcap, .int .i64 i, .slice EA env.length ecap] w (ValPost w (doM op m0.w (low m0.w (xs.getD i0 0)) (low m0.w (xs.getD i1 0)))) := by
  obtain ⟨hrow, hm, hxs, henv, hxl, hmw⟩ := h
  have hil : i < ms.length := (List.getElem?_eq_some_iff.1 hm).1
  have hil0 : i0 < ms.length := (List.getElem?_eq_some_iff.1 hm0).1
  obtain ⟨lg, lc, hLA, hlg, hlb, hlc1, hlc2, hc0⟩ := row_md hrow hm
  injection hLA with h1 h2 h3
  subst h1; subst h3
  obtain ⟨lg', lc', hLB, _, _, _, _, hd0⟩ := row_md hrow hm0
  injection hLB with hLB1 hLB2 hLB3
  injection hLB1 with hLB1
  injection hLB1 with hLB1 _
  subst hLB1; subst hLB3
  have a0 : w.cell? ⟨lg, i * 11, none⟩ = some (.int .i64 t) := hc0 0 (by decide)
  have a1 : w.cell? ⟨lg, i * 11 + 1, none⟩ = some (.int .i64 op) := hc0 1 (by decide)
  have a2 : w.cell? ⟨lg, i * 11 + 2, none⟩ = some (.int .i64 wd) := hc0 2 (by decide)
  have a3 : w.cell? ⟨lg, i * 11 + 3, none⟩ = some (.int .u16 val) := hc0 3 (by decide)
  have a4 : w.cell? ⟨lg, i * 11 + 4, none⟩ = some (.int .u8 ra) := hc0 4 (by decide)
  have a5 : w.cell? ⟨lg, i * 11 + 5, none⟩ = some (.int .u8 rb) := hc0 5 (by decide)
  have a6 : w.cell? ⟨lg, i * 11 + 6, none⟩ = some (.int .u8 rc) := hc0 6 (by decide)
  have a7 : w.cell? ⟨lg, i * 11 + 7, none⟩ = some (.int .i64 mw) := hc0 7 (by decide)
  have a8 : w.cell? ⟨lg, i * 11 + 8, none⟩ = some (.int .i64 i0) := hc0 8 (by decide)
  have a9 : w.cell? ⟨lg, i * 11 + 9, none⟩ = some (.int .i64 i1) := hc0 9 (by decide)
  have a10 : w.cell? ⟨lg, i * 11 + 10, none⟩ = some (.int .i64 i2) := hc0 10 (by decide)
  have b7 : w.cell? ⟨lg, i0 * 11 + 7, none⟩ = some (.int .i64 m0.w) := hd0 7 (by decide)
  unfold maxLen at hlc2
  generalize ms.length = len at hil hil0 hlc1 ⊢
  clear hrow hm hc0 h2 hLB2 hd0 hm0
  generalize m0.w = w0 at *
  obtain ⟨ad, rfl, hadlt, q0, x0, x0'⟩ := hxs.at (show i0 < xs.length by omega)
  obtain ⟨ad1, hA1, _, q1, x1, x1'⟩ := hxs.at (show i1 < xs.length by omega)
  obtain ⟨ad2, hA2, _, q2, x2, x2'⟩ := hxs.at (show i2 < xs.length by omega)
  injection hA1 with hA1; subst hA1
  injection hA2 with hA2; subst hA2
  have hxlen := hxs.len
  have l0 : i0 < xs.length := by omega
  have l1 : i1 < xs.length := by omega
  have l2 : i2 < xs.length := by omega
  have HXS := Lib.hid hxs
  have HEN := Lib.hid henv
  have HXL := Lib.hid hxl
  clear hxs henv hxl
  generalize xs.getD i0 0 = x at q0 x0 x0' ⊢
  generalize xs.getD i1 0 = y at q1 x1 x1' ⊢
  generalize xs.getD i2 0 = z at q2 x2 x2' ⊢
  generalize xs.length = xl at *
  generalize env.length = el
  have hc0 := fun o => (World.cell?_alloc_lt w o (ad.add i0) (by rw [add_block]; exact hadlt)).trans q0
  have hc1 := fun o => (World.cell?_alloc_lt w o (ad.add i1) (by rw [add_block]; exact hadlt)).trans q1
  have hc2 := fun o => (World.cell?_alloc_lt w o (ad.add i2) (by rw [add_block]; exact hadlt)).trans q2
  clear q0 q1 q2
  have t1 : (op != 1) = true := by simp; omega
  have t2 : (op != 2) = true := by simp; omega
  have u1 : (op == 1) = false := by simp; omega
  have u2 : (op == 2) = false := by simp; omega
  have u16 : (op == 16) = false := by simp; omega
  have u17 : (op == 17) = false := by simp; omega
  have u18 : (op == 18) = false := by simp; omega
  go_enter Tryd.func32, Tryd.ntmps32
  go_wp2_with fail
  go_quiet (fail)
  go_wp2_with fail
  refine (rmask_yes _ _ hmw).mono ?_
  rintro e w' ⟨rfl, rfl⟩
  go_wp2_with fail
  go_quiet ((go_at_call 51; exact calm_two (fun W => rdo_yes op w0 x y W hw0 h3 h15 x0 x0' x1 x1')))
  go_wp2_with fail
  go_ret
  exact ⟨rfl, (by repeat (first | exact Below.refl _ _ | refine below_drewN ?_ _ | refine Below.alloc ?_ (by first | omega | (simp; done) | (simp; omega)) _ | refine Below.drew ?_ | refine Below.setCell ?_ (by first | omega | (simp; done) | (simp; omega)) _))⟩

theorem value_law (h : VFrame w base i lcap LA VA EA ms xs env t op wd val ra rb rc mw i0 i1 i2) (o1 : 1 ≤ op) (o2 : op ≤ 18) (v0 : 0 ≤ val) (v1 : val ≤ 65535) (hp : 3 ≤ op → i0 < i ∧ i1 < i ∧ i2 < i) (hw0 : 3 ≤ op → mayw (wOf ms i0)) :
    Calls Tryd.prog 32 #[.slice LA ms.length lcap, .slice VA xs.length vcap, .int .i64 i, .slice EA env.length ecap] w (ValPost w (lv ⟨t, ⟨op, wd, val, ra, rb, rc⟩, mw, i0, i1, i2⟩ env (wOf ms i0) (xs.getD i0 0) (xs.getD i1 0) (xs.getD i2 0))) := by
  unfold lv
  simp only
  by_cases c1 : op = 1
  · rw [if_pos c1]; exact val_const h c1 v0 v1
  rw [if_neg c1]
  by_cases c2 : op = 2
  · rw [if_pos c2]; exact val_var h c2 v0 v1
  rw [if_neg c2]
  have hp := hp (by omega)
  by_cases c16 : op = 16
  · rw [if_pos c16]
    by_cases hx : xs.getD i0 0 = 1
    · rw [if_pos hx]; exact val_ite1 h c16 hp hx
    · rw [if_neg hx]; exact val_ite2 h c16 hp hx
  rw [if_neg c16]
  by_cases c17 : op = 17
  · rw [if_pos (.inl c17)]; exact val_ext h c17 hp
  by_cases c18 : op = 18
  · rw [if_pos (.inr c18)]; exact val_cut h c18 hp
  rw [if_neg (by omega)]
  have hil : i < ms.length := (List.getElem?_eq_some_iff.1 h.2.1).1
  have hm0 : ms[i0]? = some (ms[i0]'(by omega)) := List.getElem?_eq_getElem (by omega)
  have hw0 := hw0 (by omega)
  rw [wOf_of hm0] at hw0 ⊢
  exact val_two h (by omega) (by omega) hp hm0 hw0
end Go.Proofs.YtgbmiphaabeodaaDoor
