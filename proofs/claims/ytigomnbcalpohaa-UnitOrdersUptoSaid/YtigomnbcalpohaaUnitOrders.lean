/-
  The law UnitOrders, where the arguments hold together at most 1048576 values: in whatever order clauses stand, what follows is the same. Its condition: that bound alone.
-/
import Derived.Test.YtigomnbcalpohaaUnitQ
import Derived.Test.YtigomnbcalpohaaUnitA
import Derived.Test.YtigomnbcalpohaaUnitC
import Derived.BigRegion
namespace Go.Proofs.Ytigomnbcalpohaa.unitOrders
open Go.ChangeShapes Go.WideShapes Go.ChangeAt Go.RowKit
set_option linter.unusedVariables false

def rot (f : List (List Int)) (u k : Nat) : List (List Int) := (List.range k).map fun j => f.getD ((j + u) % f.length) []
theorem rot_succ (f : List (List Int)) (u k : Nat) : rot f u (k + 1) = rot f u k ++ [f.getD ((k + u) % f.length) []] := by unfold rot; rw [List.range_succ, List.map_append]; rfl
theorem rot_mem {f : List (List Int)} {u : Nat} (h : 0 < f.length) (c : List Int) : c ∈ rot f u f.length ↔ c ∈ f := by
  unfold rot
  rw [List.mem_map]
  constructor
  · rintro ⟨j, _, rfl⟩
    have hp : (j + u) % f.length < f.length := Nat.mod_lt _ h
    rw [List.getD_eq_getElem?_getD, List.getElem?_eq_getElem hp]
    exact List.getElem_mem hp
  · intro hc
    obtain ⟨i, hi, rfl⟩ := List.mem_iff_getElem.1 hc
    refine ⟨(i + (f.length - u % f.length)) % f.length, List.mem_range.2 (Nat.mod_lt _ h), ?_⟩
    have hu : u % f.length < f.length := Nat.mod_lt _ h
    have e : ((i + (f.length - u % f.length)) % f.length + u) % f.length = i := by
      rw [Nat.mod_add_mod, Nat.add_assoc, ← Nat.add_mod_mod (i) ]
      have : (f.length - u % f.length + u) % f.length = 0 := by
        rw [← Nat.add_mod_mod, Nat.sub_add_cancel (Nat.le_of_lt hu), Nat.mod_self]
      rw [this, Nat.add_zero, Nat.mod_eq_of_lt hi]
    rw [e, List.getD_eq_getElem?_getD, List.getElem?_eq_getElem hi]; rfl
theorem may_perm {n : Int} {f g : List (List Int)} (h : ∀ c, c ∈ g ↔ c ∈ f) (hm : mayM n f = true) : mayM n g = true := by
  unfold mayM at hm ⊢
  rw [Bool.and_eq_true] at hm ⊢
  exact ⟨hm.1, List.all_eq_true.2 fun c hc => List.all_eq_true.1 hm.2 c ((h c).1 hc)⟩
set_option maxHeartbeats 3200000 in
set_option maxRecDepth 100000 in
theorem walk (a0 : Int) (v1 : Value) (a2 : Int) (w : World) (h0 : (Lit.int .u8 a0).wf = true) (h1 : FormB w v1) (h2 : (Lit.int .u8 a2).wf = true) :
    Calls Try.prog 6 #[.int .u8 a0, v1, .int .u8 a2] w fun e w' => e = .returned (.bool true) ∧ Below w.heap.size w w' := by
  obtain ⟨A, f, fcap, rfl, hf, hfl, hfc⟩ := h1
  obtain ⟨h3, h4⟩ := u8_wf h0
  obtain ⟨h5, h6⟩ := u8_wf h2
  obtain ⟨u, rfl⟩ := Int.eq_ofNat_of_zero_le h5
  obtain ⟨k, hk, hk2⟩ := rem_to a0 h3 30 (by decide)
  have hk' : a0.tmod 30 = (k : Int) := hk
  have HF0 := Lib.hid hf
  have HFC := Lib.hid hfc
  have hmkI : ∀ w, (Instr.makeSlice 23 (.int .i64 (k : Int)) (.int .i64 (k : Int))).run Try.prog w = .ok (.slice (some ⟨w.heap.size, 0, none⟩) k k) (w.alloc (.cells (madeCells #[.int .i64 0] k) 3)) := fun w => run_make_row' (P := Try.prog) 23 3 (.int .i64 0) 8 Try.underlying23 infoInt rfl .i64 .i64 k (by omega) (by omega) w
  obtain ⟨i1, hi1, hy0, hy1, hy2⟩ := info_parts infoRow
  have HJ := Lib.hid (And.intro hi1 (And.intro hy0 (And.intro hy1 hy2)))
  have hu : u ≤ 255 := by omega
  clear hf hfc h0 h2 hk hi1 hy0 hy1 hy2 h5 h6
  go_enter Try.func6, Try.ntmps6
  go_wp2_with fail
  refine (awake_any _).mono ?_
  rintro e w1 ⟨rfl, hb⟩
  have HB1 := Lib.hid hb
  have HF := Lib.hid (HF0.out.keep hb)
  clear hb
  have cs := Lib.hid (small_is A f fcap 800 w1 HF.out hfl HFC.out)
  have cm := Lib.hid (rmay_any (k : Int) A f fcap w1 (by unfold Wf; omega) HF.out (by omega))
  by_cases hs : (sizeM f : Int) ≤ 800
  · have hs2 := decide_eq_true hs
    rw [hs2] at cs
    cases hmay : mayM (k : Int) f with
    | false =>
      rw [hmay] at cm
      go_wp2_with (first | (go_at_call 10; ((with_reducible refine cs.out.mono ?_); rintro e w' ⟨rfl, rfl⟩)) | (go_at_call 11; ((with_reducible refine cm.out.mono ?_); rintro e w' ⟨rfl, rfl⟩)))
      go_ret
      exact ⟨rfl, HB1.out⟩
    | true =>
      rw [hmay] at cm
      by_cases hz : f.length = 0
      · have hz2 : ((f.length : Int) == 0) = true := by simpa using hz
        clear hz
        go_wp2_with (first | (go_at_call 10; ((with_reducible refine cs.out.mono ?_); rintro e w' ⟨rfl, rfl⟩)) | (go_at_call 11; ((with_reducible refine cm.out.mono ?_); rintro e w' ⟨rfl, rfl⟩)))
        go_ret
        exact ⟨rfl, HB1.out⟩
      · have hlen : f.length ≤ 800 := by have := size_len f; omega
        have HFS : Hid (∀ c ∈ f, c.length ≤ 100000) := fun c hc => by have := size_le hc; omega
        have HMAY := Lib.hid hmay
        have hz2 : ((f.length : Int) == 0) = false := by simpa using hz
        have hz3 : ¬ (f.length : Int) = 0 := by omega
        have hz4 : ¬ f = [] := fun e => hz (by rw [e]; rfl)
        have hpos : 0 < f.length := by omega
        clear hs hs2 hmay hz
        go_wp2_with (first | (go_at_call 10; ((with_reducible refine cs.out.mono ?_); rintro e w' ⟨rfl, rfl⟩)) | (go_at_call 11; ((with_reducible refine cm.out.mono ?_); rintro e w' ⟨rfl, rfl⟩)))
        go_loopw [8, 9] (fun v8 v9 wr => ∃ (i : Nat) (vs : List Value) (B : Option Addr) (bcap : Nat), i ≤ f.length ∧ v9 = .int .i64 i ∧ v8 = .slice B i bcap ∧ Hid (LRel w1 wr 23 (.slice B i bcap) vs) ∧ Hid (RowsOK w1 vs (rot f u i))) (fun _ v9 _ => f.length - (intOf v9).toNat)
        case atStart => exact ⟨0, [], none, 0, by omega, rfl, rfl, LRel.nil w1 _, rfl, fun i c hc => by simp [rot] at hc⟩
        case round =>
          obtain ⟨i, vs, B, bcap, hi, rfl, rfl, R, RO⟩ := hrel
          by_cases hlt : i < f.length
          · have hp0 : (i + u) % f.length < f.length := Nat.mod_lt _ hpos
            have hm : ((i : Int) + (u : Int)).tmod (f.length : Int) = (((i + u) % f.length : Nat) : Int) := by rw [Int.tmod_eq_emod_of_nonneg (by omega)]; push_cast; rfl
            obtain ⟨c, hc⟩ : ∃ c, f[(i + u) % f.length]? = some c := ⟨_, List.getElem?_eq_getElem hp0⟩
            obtain ⟨a, C, ccap, rfl, hcc, hcs, hcl⟩ := HF.out.get _ c hc
            have hcc' : wr.cell? (a.add ((i + u) % f.length)) = some (.slice C c.length ccap) := (R.out.below.cell (lt_of_cell hcc)).trans hcc
            have HNX : Hid (RowsOK w1 (vs ++ [.slice C c.length ccap]) (rot f u (i + 1))) := by
              rw [rot_succ, show f.getD ((i + u) % f.length) [] = c by rw [List.getD_eq_getElem?_getD, hc]; rfl]
              exact RO.out.snoc hcs hcl
            have hvl : vs.length = i := by rw [RO.out.1]; simp [rot]
            have HO : Hid (wr.ownsRow w1.heap.size 23 1 (.slice B i bcap) i vs) := by have := R.out.own; rw [hvl] at this; exact this
            have HSZ := Lib.hid R.out.below.size
            have hwr : IntKind.i64.wrap ((i : Int) + (u : Int)) = (i : Int) + (u : Int) := wrap_in (by omega) (by omega)
            have HVL := Lib.hid hvl
            generalize (i + u) % f.length = p at *
            clear hc hcc hcs RO hvl
            go_wp2_with (at_builtin; refine wpList_append_lies _ rfl _ _ _ rfl w1.heap.size 23 i1 _ 1 24 Try.underlying22 HJ.out.1 HJ.out.2.1 HJ.out.2.2.1 HJ.out.2.2.2 rfl (by omega) (.slice B i bcap) i vs rfl (HO.out.alloc _) ⟨wr.heap.size, 0, none⟩ 1 1 [.slice C c.length ccap] rfl rfl (World.news_of_block (cs := #[.slice C c.length ccap]) (t := 23) (fr := (0, 0)) (new_heap wr _)) (by simp [Value.oneCell']) (by omega) (by unfold maxLen; omega) (by omega) (by have := HSZ.out; simp; omega) (wr.heap.size + 1) (by simp) ?_; intro g1 c1 wp hown1 hg1 hat1 hlt1; have HO1 := Lib.hid hown1; have HG1 := Lib.hid hg1; clear hown1 hg1 hat1 hlt1)
            go_roundw
            case rel => exact ⟨i + 1, vs ++ [Value.slice C c.length ccap], some ⟨g1, 0, none⟩, c1, by omega, by go_num, rfl, by
              have hx := R.out.more (x := Value.slice C c.length ccap) (g := g1) (cap := c1) (by rw [HVL.out]; exact HO1.out) HG1.out
              rw [HVL.out] at hx; exact hx, HNX.out⟩
            case measure => simp [intOf]; omega
          · obtain rfl : f.length = i := by omega
            have hh : (f.length : Int).tdiv 2 = ((f.length / 2 : Nat) : Int) := by rw [Int.tdiv_eq_ediv_of_nonneg (by omega)]; push_cast; rfl
            have RO2 : Hid (RowsOK w1 vs (rot f u f.length) ∧ ∀ c, c ∈ rot f u f.length ↔ c ∈ f) := ⟨RO.out, rot_mem hpos⟩
            clear RO hlt hi cs cm
            go_wp2_with fail
            go_loopw [10] (fun v wr => ∃ (i : Nat) (vs : List Value) (gl : List (List Int)), i ≤ f.length ∧ v = .int .i64 i ∧ gl.length = f.length ∧ Hid (LRel w1 wr 23 (.slice B f.length bcap) vs) ∧ Hid (RowsOK w1 vs gl) ∧ Hid (∀ c, c ∈ gl ↔ c ∈ f)) (fun v _ => f.length - (intOf v).toNat)
            case atStart => exact ⟨0, vs, rot f u f.length, by omega, rfl, by simp [rot], R.out, RO2.out.1, RO2.out.2⟩
            case round =>
              clear R RO2
              obtain ⟨i, vs, gl, hi, rfl, hgl, R, RO, RM⟩ := hrel
              by_cases hlt : i < f.length / 2
              · have hlt' : (i : Int) < ((f.length / 2 : Nat) : Int) := by omega
                obtain ⟨j, hj⟩ : ∃ j, j = f.length - 1 - i := ⟨_, rfl⟩
                have hij : i ≠ j := by omega
                have hjl : j < f.length := by omega
                obtain ⟨c, hc⟩ : ∃ c, gl[i]? = some c := ⟨_, List.getElem?_eq_getElem (by omega)⟩
                obtain ⟨d, hd⟩ : ∃ d, gl[j]? = some d := ⟨_, List.getElem?_eq_getElem (by omega)⟩
                obtain ⟨C, ccap, hvi, _⟩ := RO.out.2 i c hc
                obtain ⟨D, dcap, hvj, _⟩ := RO.out.2 j d hd
                have R1 := R.out.draws 1
                obtain ⟨g, rfl, _, hci, hfi, hb1, hb2, puti⟩ := R1.at hvi
                obtain ⟨g2, hg2, _, hcj, hfj, _, _, _⟩ := R1.at hvj
                injection hg2 with hg2
                injection hg2 with hg2
                subst hg2
                have p1 := puti (.slice D d.length dcap)
                have hvj2 : (vs.set i (.slice D d.length dcap))[j]? = some (.slice D d.length dcap) := by rw [List.getElem?_set_ne hij]; exact hvj
                obtain ⟨g3, hg3, _, _, hfj2, _, _, putj⟩ := p1.at hvj2
                injection hg3 with hg3
                injection hg3 with hg3
                subst hg3
                have HP := Lib.hid (putj (.slice C c.length ccap))
                have HRO := Lib.hid (RO.out.swap hc hd hvi hvj)
                have HRM : Hid (∀ x, x ∈ (gl.set i d).set j c ↔ x ∈ f) := fun x => (mem_swap hij hc hd x).trans (RM.out x)
                have s2 : IntKind.i64.wrap ((f.length : Int) - 1) = (f.length : Int) - 1 := wrap_in (by omega) (by omega)
                have s3 : (f.length : Int) - 1 - (i : Int) = (j : Int) := by omega
                have s4 : IntKind.i64.wrap (j : Int) = (j : Int) := wrap_in (by omega) (by omega)
                have hii : (i : Int) < (f.length : Int) := by omega
                have hjj : (j : Int) < (f.length : Int) := by omega
                have hne : ¬ j = i := fun e => hij e.symm
                have HGL := Lib.hid hgl
                have hci' : wr.cell? ⟨g, i, none⟩ = some (Value.slice C c.length ccap) := hci
                have hcj' : wr.cell? ⟨g, j, none⟩ = some (Value.slice D d.length dcap) := hcj
                have hfi' : wr.frozen? ⟨g, i, none⟩ = false := hfi
                have hfj' : wr.frozen? ⟨g, j, none⟩ = false := hfj
                clear hci hcj hfi hfj hfj2
                clear hc hd hvi hvj R1 R RO RM puti p1 hvj2 putj hgl hj
                go_wp2_with fail
                go_region
                all_goals (go_wp2_with fail; go_roundw; (case rel => exact ⟨i + 1, _, _, by omega, by go_num, by rw [List.length_set, List.length_set]; exact HGL.out, HP.out, HRO.out, HRM.out⟩); (case measure => simp [intOf]; omega))
              · have hlt' : ¬ (i : Int) < ((f.length / 2 : Nat) : Int) := by omega
                have hglf : FormAt wr B gl := own_form2 (n := f.length) (by have := R.out.own; rw [RO.out.1, hgl] at this; exact this) (RO.out.keep R.out.below) (fun c hc l hl => HF.out.wf c ((RM.out c).1 hc) l hl)
                have HG := Lib.hid hglf
                have HB2 := Lib.hid (Below.on HB1.out R.out.below)
                have HFW := Lib.hid (HF.out.keep R.out.below)
                have HMG := Lib.hid (may_perm RM.out HMAY.out)
                have HGC : Hid (∀ c ∈ gl, c.length ≤ 100000) := fun c hc => HFS.out c ((RM.out c).1 hc)
                have c1 := Lib.hid (run_zeros (fcap := fcap) (k := k) wr (by omega) HFW.out (by omega) HFS.out rfl)
                have hgl' : gl.length = f.length := hgl
                have HPERM : Hid (∀ u : List Int, Rest f u ↔ Rest gl u) := fun u => Rest.perm (fun c => (RM.out c).symm)
                clear hglf R RO RM
                go_wp2_with fail
                with_reducible refine c1.out.mono ?_
                rintro e w5 ⟨hb5, h5⟩
                have HX5 := Lib.hid (Below.on (below_alloc wr (.cells (madeCells #[.int .i64 0] k) 3)) hb5)
                have HB5 := Lib.hid (Below.on HB2.out HX5.out)
                have c2 := run_zeros (A := B) (fcap := bcap) (k := k) w5 (by omega) (HG.out.keep HX5.out) (by omega) HGC.out rfl
                rw [hgl'] at c2
                have C2 := Lib.hid c2
                clear c2 hb5 c1
                rcases h5 with ⟨hno, _⟩ | ⟨_, ha, rfl⟩ | ⟨_, t, tA, tcap, ha, rfl, hts, _⟩
                · rw [fine_zeros HMAY.out] at hno; cases hno
                · rw [List.length_replicate] at ha
                  have HA := Lib.hid ha
                  clear ha
                  go_wp2_with fail
                  with_reducible refine C2.out.mono ?_
                  rintro e w6 ⟨hb6, ⟨hno, _⟩ | ⟨_, ha2, rfl⟩ | ⟨_, t2, tA2, tcap2, ha2, _⟩⟩
                  · rw [fine_zeros HMG.out] at hno; cases hno
                  · have HB6 := Lib.hid (Below.on HB5.out (Below.on (below_alloc w5 (.cells (madeCells #[.int .i64 0] k) 3)) hb6))
                    clear hb6 ha2 C2
                    go_wp2_with fail
                    refine (sameB (A := none) (B := none) (a := []) (b := []) (acap := 0) (bcap := 0) (SeqAt.nil _ _) (SeqAt.nil _ _) (by decide) (by decide) (r := true) (by decide)).mono ?_
                    rintro e w7 ⟨rfl, hb7⟩
                    have HB7 := Lib.hid (Below.on HB6.out hb7)
                    clear hb7
                    go_wp2_with fail
                    go_ret
                    exact ⟨rfl, HB7.out⟩
                  · rw [List.length_replicate] at ha2
                    have := (HA.out.rests (fun u _ => HPERM.out u)).det ha2; cases this
                · rw [List.length_replicate] at ha
                  have HA := Lib.hid ha
                  have HT := Lib.hid hts
                  have HTL := Lib.hid (show t.length = k from ha.1.1)
                  clear ha hts
                  go_wp2_with fail
                  with_reducible refine C2.out.mono ?_
                  rintro e w6 ⟨hb6, ⟨hno, _⟩ | ⟨_, ha2, _⟩ | ⟨_, t2, tA2, tcap2, ha2, rfl, hts2, _⟩⟩
                  · rw [fine_zeros HMG.out] at hno; cases hno
                  · rw [List.length_replicate] at ha2
                    have := (HA.out.rests (fun u _ => HPERM.out u)).det ha2; cases this
                  · rw [List.length_replicate] at ha2
                    obtain rfl : t = t2 := by have := (HA.out.rests (fun u _ => HPERM.out u)).det ha2; injection this
                    have hb6' := Below.on (below_alloc w5 (.cells (madeCells #[.int .i64 0] k) 3)) hb6
                    have HB6 := Lib.hid (Below.on HB5.out hb6')
                    have cs2 := Lib.hid (sameB (acap := tcap) (bcap := tcap2) (w := w6) (HT.out.keep hb6') hts2 (by have := HTL.out; omega) (by have := HTL.out; omega) (r := true) (by simp))
                    clear hb6 hb6' ha2 hts2 C2
                    go_wp2_with fail
                    with_reducible refine cs2.out.mono ?_
                    rintro e w7 ⟨rfl, hb7⟩
                    have HB7 := Lib.hid (Below.on HB6.out hb7)
                    clear hb7 cs2
                    go_wp2_with fail
                    go_ret
                    exact ⟨rfl, HB7.out⟩
  · have hs2 := decide_eq_false hs
    rw [hs2] at cs
    go_wp2_with (first | (go_at_call 10; ((with_reducible refine cs.out.mono ?_); rintro e w' ⟨rfl, rfl⟩)) | (go_at_call 11; ((with_reducible refine cm.out.mono ?_); rintro e w' ⟨rfl, rfl⟩)))
    go_ret
    exact ⟨rfl, HB1.out⟩

set_option maxRecDepth 100000 in
theorem contract (H : Type) (enc : TypeId × Value → H) (W : World) (base : Nat) (args : Array Value) (ds gs : List (DataW H)) (before : List MemPlace)
    (hval : ∀ (j : Nat) t v, Try.f6.params[j]? = some t → args[j]? = some v → Value.okWide Try.prog W .any base t v)
    (hW : DataW.Whole enc Try.prog Try.f6.params.toList Rows.unitOrdersSpec.vars false W args.toList ds gs before) (hk : Rows.uptoSmall H (ds ++ gs) = true) :
    Calls Try.prog 6 args W fun e W' => ∃ v, e = .returned v ∧ Rows.unitOrdersSpec.post enc Try.prog Try.f6 false true false false W args v W' := by
  have hW' := hW
  obtain ⟨p, q, hA0, hV, rfl, hfz, hnd⟩ := hW
  have hA : DataW.TrodAll enc Try.prog W 0 (fun _ => true) true Try.f6.params.toList args.toList ds p := hA0
  rw [Try.params6] at hA hval
  obtain ⟨v0, vs0, d0, ds0, p0, q0, hargs, rfl, rfl, h0, r0⟩ := trodAll_cons hA
  obtain ⟨v1, vs1, d1, ds1, p1, q1, rfl, rfl, rfl, h1, r1⟩ := trodAll_cons r0
  obtain ⟨v2, vs2, d2, ds2, p2, q2, rfl, rfl, rfl, h2, r2⟩ := trodAll_cons r1
  obtain ⟨rfl, rfl, rfl⟩ := trodAll_nil r2
  obtain rfl : args = #[v0, v1, v2] := by cases args; simp_all
  obtain ⟨rfl, rfl⟩ := trodVars_none hV
  simp only [List.append_nil] at hW' hk
  have hb : Rows.uptoBulkAll [d0, d1, d2] ≤ 1048576 := of_decide_eq_true hk
  simp only [Rows.uptoBulkAll] at hb
  obtain ⟨a0, rfl, rfl, rfl, w0⟩ := open_int Try.underlying5 (hval 0 5 v0 rfl rfl) h0
  have w1 : FormB W v1 := form_b Try.underlying22 Try.underlying23 Try.underlying3 cellsRow cellsInt (hval 1 22 v1 rfl rfl) h1 (by omega)
  obtain ⟨a2, rfl, rfl, rfl, w2⟩ := open_int Try.underlying5 (hval 2 5 v2 rfl rfl) h2
  clear hA0
  have hlt := hW'.lt
  refine (walk a0 v1 a2 W w0 w1 w2).mono fun e W' ⟨he, hg⟩ => ?_
  subst he
  exact ⟨_, rfl, post_kept hW' hg (fun _ _ _ => (trodAll_cons_mk (shut_bool Try.underlying4 _) trodAll_mk0)) (fun sp hsp => (trodAll_cons_mk (shut_int Try.underlying5 w0) (trodAll_cons_mk (WideElems.Trod_stays laidOut (by kernel_rfl) (of_decide_eq_true (by kernel_rfl)) h1 (fun x hx => hg.same (hlt x (by first | exact hx | (simp; first | exact .inl hx | exact .inr hx | exact hx | exact .inr (.inl hx) | exact .inr (.inr hx))))) (fun x hx => hsp x (by first | exact hx | (simp; first | exact .inl hx | exact .inr hx | exact hx | exact .inr (.inl hx) | exact .inr (.inr hx))))) (trodAll_cons_mk (shut_int Try.underlying5 w2) trodAll_mk0)))) (fun _ _ => rfl) (by first | rfl | simp)
    (ok_one (by kernel_rfl) rfl (okWide_bool_mk Try.underlying4 _))⟩
set_option maxRecDepth 100000 in
theorem lifted (os : Os) (started : os.Started) (H : Type) (enc : TypeId × Value → H) (F : Stop.Interp) :
    ReturnsInHanded {} Try.checked os 6 .any ((Rows.OpenSpec.upto Rows.unitOrdersSpec).pre6 enc Try.prog Try.f6 Rows.unitOrdersUptoRow.domain false) (((Rows.OpenSpec.upto Rows.unitOrdersSpec).at F).post enc Try.prog Try.f6 false true false false) := by
  refine returnsInHanded_of_cond (C := Try.checked) (s := Rows.OpenSpec.upto Rows.unitOrdersSpec) (k := Rows.uptoSmall) rfl own started (by kernel_rfl) Try.func6
    (OpenSpec.witness (enc := enc) (C := Try.checked) (s := Rows.OpenSpec.upto Rows.unitOrdersSpec) (k := Rows.uptoSmall) rfl false ⟨#[], #[.int .u8 0, .slice none 0 0, .int .u8 0], []⟩ 8 (by kernel_rfl) (by kernel_rfl) (by kernel_rfl)
      (x := ([.lit (.int .u8 0), .nil, .lit (.int .u8 0)], [], [])) (by kernel_rfl) rfl (by kernel_rfl)) ?_
  intro W base args ds gs before hval hW _ hk _
  exact contract H enc W base args ds gs before hval hW hk

theorem proved : Rows.UnitOrdersUptoSaid :=
  OpenClaim.holds_of_cond 6 Try.f6 rfl rfl rfl rfl rfl rfl rfl ⟨rfl, rfl, rfl, rfl, rfl⟩ rfl rfl rfl rfl rfl (by kernel_rfl) Try.func6 (by kernel_rfl)
    (of_decide_eq_true (by kernel_rfl)) (by unfold Func.isWrapper; first | (rw [if_pos (by decide +kernel)]; kernel_rfl) | (rw [if_neg (by decide +kernel)]; exact ⟨rfl, rfl⟩))
    (fun os started H enc _ F => lifted os started H enc F)
#print axioms proved
end Go.Proofs.Ytigomnbcalpohaa.unitOrders
