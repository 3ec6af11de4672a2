/-
  Parts of the proof, joined: UnitY.
-/
import Derived.Test.YtpmdnbdmocdngaaGreatMh42
import Derived.Test.YtpmdnbdmocdngaaGreatMh39

namespace Go.Proofs.YtpmdnbdmocdngaaGreat
open Go.ChangeShapes Go.WideShapes Go.ChangeAt Go.RowKit
set_option linter.unusedVariables false

theorem count_setL {n : Nat} {t : List Int} {l : Int} (ht : TV n t) (ok : LOk n l) (h0 : wo t l = 0) : (setL t l).count 0 + 1 = t.count 0 := by
  have hat := wo_at ht ok
  rw [h0] at hat; simp at hat
  have hlt : at_ l < t.length := by rw [ht.1]; exact at_lt ok
  have hg : t[at_ l] = 0 := by rw [List.getElem?_eq_getElem hlt] at hat; injection hat
  have hc := List.count_set (a := sg l) (b := (0 : Int)) hlt
  have hpos : 0 < t.count 0 := List.count_pos_iff.2 (hg ▸ List.getElem_mem hlt)
  have hsg : (sg l == (0 : Int)) = false := by unfold sg; split <;> rfl
  rw [hg, hsg] at hc
  simp at hc
  unfold setL
  rw [hc]; omega
structure MidR (n : Nat) (f : List (List Int)) (m t : List Int) (W wm : World) (v : Value) (i : Nat) (t2 : List Int) (ch : Bool) : Prop where
  row : LRel W wm 3 v (ints t2)
  tv : TV n t2
  up : Up m t2
  low : Low n f m t2
  no : ch = false → t2 = t ∧ ∀ c ∈ f.take i, RestC t c
  yes : ch = true → t2.count 0 < t.count 0
theorem MidR.next {n : Nat} {f : List (List Int)} {m t : List Int} {W wm : World} {v : Value} {i : Nat} {t2 : List Int} {ch : Bool} {c : List Int} (h : MidR n f m t W wm v i t2 ch) (hc : f[i]? = some c) (hr : RestC t2 c) : MidR n f m t W wm v (i + 1) t2 ch :=
  ⟨h.row, h.tv, h.up, h.low, fun e => by
    obtain ⟨h1, h2⟩ := h.no e
    refine ⟨h1, fun d hd => ?_⟩
    rw [f_take hc] at hd
    rcases List.mem_append.1 hd with hd | hd
    · exact h2 d hd
    · simp at hd; subst hd; rw [← h1]; exact hr, h.yes⟩
theorem MidR.put {n : Nat} {f : List (List Int)} {m t : List Int} {W wm w' : World} {v : Value} {i : Nat} {t2 : List Int} {ch : Bool} {c : List Int} {l : Int} (h : MidR n f m t W wm v i t2 ch) (hc : f[i]? = some c) (hl : l ∈ c) (ok : LOk n l) (h0 : wo t2 l = 0) (hot : ∀ y ∈ c, y ≠ l → wo t2 y = -1)
    (hrow : LRel W w' 3 v (ints (setL t2 l))) : MidR n f m t W w' v (i + 1) (setL t2 l) true :=
  ⟨hrow, setL_tv h.tv ok, h.up.trans (setL_up h.tv ok h0), h.low.step (List.mem_of_getElem? hc) hl ok h.tv hot, fun e => by (cases e), fun _ => by
    have h1 := count_setL h.tv ok h0
    cases hch : ch with
    | false => rw [(h.no hch).1] at h1 ⊢; omega
    | true => have := h.yes hch; omega⟩
def UnitPost (n : Nat) (f : List (List Int)) (m : List Int) (W : World) (e : Ending) (W' : World) : Prop :=
  Below W.heap.size W W' ∧ ((Ans n f m none ∧ e = .returned (.tuple #[.slice none 0 0, .bool true])) ∨
    ∃ t B cap, Ans n f m (some t) ∧ e = .returned (.tuple #[.slice B t.length cap, .bool false]) ∧ SeqAt (Value.int .i64) W' B t)
/-- What is appended to nothing, nothing itself perhaps. -/
theorem wpList_app_opt {P : Program} {w : World} {ops : Array Oper} {rest : List Oper} {o : Oper} {a : Act} {Q : Exit → Act → World → Prop} (hgd : o.guard = none) (s x : Operand) (t : TypeId)
    (ho : o.op = .call { callee := .builtin .append, args := #[s, x], argTypes := #[t, t] })
    (e : TypeId) (i : TypeInfo) (z : Value) (bytes : Nat) (ht : P.underlying t = some (.slice e)) (hi : P.info? e = some i) (hz : i.zero = some z)
    (hsize : i.size = 1) (hby : i.bytes = bytes) (hzs : z.cells.size = 1) (hs : a.eval s = .slice none 0 0)
    (M : Option Addr) (m : List Int) (mcap : Nat) (hx : a.eval x = .slice M m.length mcap) (hm : SeqAt (Value.int .i64) w M m) (hnil : M = none → m.length = 0 ∧ mcap = 0) (hb : m.length ≤ 65536 ∧ m.length * bytes ≤ 140737488355328)
    (h : ∀ v' w', LRel w w' e v' (ints m) → wpList P ops Q rest (a.put o.dst v') w') : wpList P ops Q (o :: rest) a w := by
  have hown : w.ownsRow w.heap.size e 1 (.slice none 0 0) 0 [] := ⟨rfl, .inl ⟨rfl, rfl⟩⟩
  cases M with
  | none =>
    obtain ⟨h1, rfl⟩ := hnil rfl
    have hm0 : m = [] := List.eq_nil_of_length_eq_zero h1
    subst hm0
    refine wpList_plain hgd fun K hK => ?_
    have hrun := run_append_owned_none (P := P) (w := w) w.heap.size t o.type e i 1 ht hi (.slice none 0 0) 0 [] hown
    have hx' : a.eval x = .slice none 0 0 := hx
    unfold Oper.wp
    simp [execOp, ho, resolve, invoke, builtin, hs, hx', hrun, Result.andThen]
    exact hK _ _ (h _ _ (LRel.nil w e))
  | some ad =>
    refine wpList_append_own w hgd s x t ho w.heap.size e i z 1 bytes ht hi hz hsize hby hzs (by omega) (.slice none 0 0) 0 [] hs hown ad m.length mcap (ints m) hx (by simp) (fun j u hu => by
      rw [List.getElem?_map] at hu
      obtain ⟨z, hz, rfl⟩ := Option.map_eq_some_iff.1 hu
      obtain ⟨a', ha, hc⟩ := hm.get j z hz
      injection ha with ha; subst ha; exact hc) (fun u hu => by obtain ⟨z, _, rfl⟩ := List.mem_map.1 hu; rfl) (by unfold maxLen; omega) (by rw [Nat.zero_add]; exact hb.2) (Nat.le_refl _) fun v1 w1 hown1 hg1 _ => h _ _ ⟨?_, (Below.refl _ _).grown hg1 (Nat.le_refl _) (fun k hk => by cases hk)⟩
    simp only [Nat.zero_add, List.nil_append] at hown1
    rw [List.length_map]; exact hown1
set_option maxHeartbeats 3200000 in
set_option maxRecDepth 100000 in
theorem unit_any {n : Nat} {A M : Option Addr} {f : List (List Int)} {m : List Int} {fcap mcap : Nat} (k0 : Int) (W : World) (hf : FormAt W A f) (hfl : f.length ≤ 9223372036854775807) (hm : SeqAt (Value.int .i64) W M m) (tv : TV n m) (ok : FOk n f) (hn : n ≤ 65536) (hnil : M = none → m.length = 0 ∧ mcap = 0) :
    Calls Tryz.prog 15 #[.int .i64 k0, .slice A f.length fcap, .slice M m.length mcap] W (UnitPost n f m W) := by
  have HF := Lib.hid hf
  have HM := Lib.hid hm
  have TVM := Lib.hid tv
  have OK := Lib.hid ok
  have HN := Lib.hid hnil
  have hml : m.length = n := tv.1
  obtain ⟨i0, hi0, hz0, hz1, hz2⟩ := info_parts infoInt
  have HI := Lib.hid (show _ ∧ _ ∧ _ ∧ _ from ⟨hi0, hz0, hz1, hz2⟩)
  clear hi0 hz0 hz1 hz2 hf hm tv ok hnil
  go_enter Tryz.func15, Tryz.ntmps15
  go_wp2_with (at_builtin; refine wpList_app_opt rfl _ _ _ rfl 3 i0 _ 8 Tryz.underlying36 HI.out.1 HI.out.2.1 HI.out.2.2.1 HI.out.2.2.2 rfl rfl M m mcap rfl HM.out HN.out (by omega) ?_; intro v1 w1 hrel1; have HR1 := Lib.hid hrel1; clear hrel1)
  · obtain ⟨vA, vcap, rfl⟩ := lrel_form HR1.out (n := n) (by simp [hml])
    have H0 : Hid (LRel W w1 3 (.slice vA n vcap) (ints m)) := HR1.out
    clear HR1 HM HN HI
    go_loopg [] (m.count 0) (fun gg wr => ∃ t, t.count 0 ≤ gg ∧ Hid (LRel W wr 3 (.slice vA n vcap) (ints t)) ∧ Hid (TV n t ∧ Up m t ∧ Low n f m t))
    case atStart => exact ⟨m, Nat.le_refl _, H0.out, TVM.out, Up.refl m, fun u _ h _ => h⟩
    case round =>
      clear H0
      obtain ⟨t, hgk, HR, HT⟩ := hrel
      go_wp2_with fail
      go_loopw [9, 10] (fun v9 v10 wm => ∃ (i : Nat) (t2 : List Int) (ch : Bool), i ≤ f.length ∧ v10 = .int .i64 i ∧ v9 = .bool ch ∧ Hid (MidR n f m t W wm (.slice vA n vcap) i t2 ch)) (fun _ v10 _ => f.length - (intOf v10).toNat)
      case atStart => exact ⟨0, t, false, by omega, rfl, rfl, ⟨HR.out, HT.out.1, HT.out.2.1, HT.out.2.2, fun _ => ⟨rfl, fun c hc => by simp at hc⟩, fun e => by cases e⟩⟩
      case round =>
        clear HR HT
        obtain ⟨i, t2, ch, hi, rfl, rfl, MR⟩ := hrel
        by_cases hlt : i < f.length
        · obtain ⟨c, hz⟩ : ∃ c, f[i]? = some c := ⟨_, List.getElem?_eq_getElem hlt⟩
          obtain ⟨a, C, ccap, rfl, hcc, hcs, hcl⟩ := (HF.out.keep MR.out.row.below).get i c hz
          have HS := Lib.hid hcs
          have HZ := Lib.hid hz
          have OKC := Lib.hid (OK.out c (List.mem_of_getElem? hz))
          have htl : t2.length = n := MR.out.tv.1
          clear hcs hz
          go_wp2_with fail
          go_loop [11, 12, 13] (fun vo vp vk => ∃ (k : Nat) (op : Int), k ≤ c.length ∧ vk = .int .i64 k ∧ vp = .int .i64 op ∧ vo = .bool ((c.take k).any (isT t2)) ∧ Hid ((op = 0 ∧ ∀ y ∈ c.take k, wo t2 y ≠ 0) ∨ (op ∈ c ∧ wo t2 op = 0))) (fun _ _ vk => c.length - (intOf vk).toNat)
          case atStart => exact ⟨0, 0, by omega, rfl, rfl, rfl, .inl ⟨rfl, fun y hy => by simp at hy⟩⟩
          case round =>
            obtain ⟨k, op, hk, rfl, rfl, rfl, G⟩ := hrel
            by_cases hkl : k < c.length
            · obtain ⟨l, hl⟩ : ∃ l, c[k]? = some l := ⟨_, List.getElem?_eq_getElem hkl⟩
              obtain ⟨aC, rfl, hcl2⟩ := HS.out.get k l hl
              have hm := List.mem_of_getElem? hl
              have okl := OKC.out l hm
              obtain ⟨ix, x, nl, hix, -, hx, hw, hmx, h0, hT, rfl⟩ := lit_at MR.out.tv okl hn
              obtain ⟨g, rfl, _, hct, _, hc1, hc2, _⟩ := MR.out.row.at (i := ix) (u := .int .i64 x) (by rw [List.getElem?_map, hx]; rfl)
              have HE := Lib.hid (any_take (p := isT t2) hl)
              have hixn : (ix : Int) < (n : Int) := by omega
              by_cases hx0 : x = 0
              · have e1 : (x == 0) = true := by simpa using hx0
                have e2 : (x != 0) = false := by simpa using hx0
                have w0 := h0.1 hx0
                have hT0 : isT t2 l = false := by unfold isT; rw [w0]; rfl
                rw [hT0, Bool.or_false] at HE
                have HG : Hid ((l = 0 ∧ ∀ y ∈ c.take (k + 1), wo t2 y ≠ 0) ∨ (l ∈ c ∧ wo t2 l = 0)) := .inr ⟨hm, w0⟩
                clear hl hm okl hx h0 hT hix w0 hT0 G
                cases ho : (c.take k).any (isT t2) with
                | true =>
                  rw [ho] at HE
                  clear ho
                  go_wp2_with fail
                  go_round
                  case rel => exact ⟨k + 1, l, by omega, by go_num, rfl, by rw [HE.out], HG.out⟩
                  case measure => simp [intOf]; omega
                | false =>
                  rw [ho] at HE
                  clear ho
                  go_wp2_with fail
                  go_round
                  case rel => exact ⟨k + 1, l, by omega, by go_num, rfl, by rw [HE.out], HG.out⟩
                  case measure => simp [intOf]; omega
              · have e1 : (x == 0) = false := by simpa using hx0
                have e2 : (x != 0) = true := by simpa using hx0
                have w0 : wo t2 l ≠ 0 := fun e => hx0 (h0.2 e)
                rw [if_neg hx0] at hT
                have tk : ∀ y, y ∈ c.take (k + 1) → y ∈ c.take k ∨ y = l := fun y hy => by
                  rw [List.take_succ_eq_append_getElem hkl, (List.getElem?_eq_some_iff.1 hl).2] at hy
                  simpa using hy
                have HG : Hid ((op = 0 ∧ ∀ y ∈ c.take (k + 1), wo t2 y ≠ 0) ∨ (op ∈ c ∧ wo t2 op = 0)) := by
                  rcases G.out with ⟨h1, h2⟩ | h1
                  · exact .inl ⟨h1, fun y hy => by rcases tk y hy with hy | rfl; exact h2 y hy; exact w0⟩
                  · exact .inr h1
                clear hl hm okl hx h0 hix w0 G tk hx0
                generalize isT t2 l = r at *
                cases ho : (c.take k).any (isT t2) with
                | true =>
                  rw [ho] at HE
                  clear ho hT
                  go_wp2_with fail
                  go_round
                  case rel => exact ⟨k + 1, op, by omega, by go_num, rfl, by rw [HE.out]; rfl, HG.out⟩
                  case measure => simp [intOf]; omega
                | false =>
                  rw [ho] at HE
                  clear ho
                  go_wp2_with fail
                  go_round
                  case rel => exact ⟨k + 1, op, by omega, by go_num, rfl, by rw [HE.out]; (first | done | rfl | (simp [hT])), HG.out⟩
                  case measure => simp [intOf]; omega
            · obtain rfl : c.length = k := by omega
              rw [List.take_length]
              have G2 : Hid ((op = 0 ∧ ∀ y ∈ c, wo t2 y ≠ 0) ∨ (op ∈ c ∧ wo t2 op = 0)) := by have := G.out; rw [List.take_length] at this; exact this
              clear G
              cases ho : c.any (isT t2) with
              | true =>
                have HN := Lib.hid (MR.out.next HZ.out (.inl (by
                  obtain ⟨y, hy, h1⟩ := List.any_eq_true.1 ho
                  exact ⟨y, hy, of_decide_eq_true h1⟩)))
                clear ho
                go_wp2_with fail
                go_roundw
                case rel => exact ⟨i + 1, t2, ch, by omega, by go_num, rfl, HN.out⟩
                case measure => simp [intOf]; omega
              | false =>
                have sq : SeqAt (Value.int .i64) wr vA t2 := by
                  have := MR.out.row.own; rw [List.length_map, htl] at this; exact seq_own this
                have cd := differ_any (n := n) (ccap := ccap) (tcap := vcap) wr HS.out hcl sq MR.out.tv OKC.out hn
                rw [htl] at cd
                have CD := Lib.hid cd
                have HNT : Hid (∀ y ∈ c, wo t2 y ≠ 1) := fun y hy e => by
                  have := List.any_eq_false.1 ho y hy
                  unfold isT at this; rw [e] at this; simp at this
                clear cd sq ho
                go_wp2_with fail
                refine CD.out.mono ?_
                rintro e w' ⟨⟨b, rfl, hb⟩, rfl⟩
                cases b with
                | true =>
                  have HN := Lib.hid (MR.out.next HZ.out (.inr (hb.1 rfl)))
                  clear hb CD
                  go_wp2_with fail
                  go_roundw
                  case rel => exact ⟨i + 1, t2, ch, by omega, by go_num, rfl, HN.out⟩
                  case measure => simp [intOf]; omega
                | false =>
                  have HB : Hid (¬ Two t2 c) := fun h => by have := hb.2 h; cases this
                  clear hb CD
                  by_cases hop : op = 0
                  · subst hop
                    have HA := Lib.hid (MR.out.low.bad (List.mem_of_getElem? HZ.out) (fun y hy => by
                      have h1 := HNT.out y hy
                      have h2 : wo t2 y ≠ 0 := by
                        rcases G2.out with ⟨_, h⟩ | ⟨h, _⟩
                        · exact h y hy
                        · exact absurd rfl (OKC.out 0 h).1
                      rcases wo_cases MR.out.tv y with e | e | e
                      · exact e
                      · exact absurd e h2
                      · exact absurd e h1))
                    have HBL := Lib.hid MR.out.row.below
                    clear G2 HB HNT
                    go_wp2_with fail
                    go_ret2
                    exact ⟨HBL.out, .inl ⟨HA.out, rfl⟩⟩
                  · obtain ⟨hoc, how⟩ : op ∈ c ∧ wo t2 op = 0 := by
                      rcases G2.out with ⟨h, _⟩ | h
                      · exact absurd h hop
                      · exact h
                    have oko := OKC.out op hoc
                    have hot : ∀ y ∈ c, y ≠ op → wo t2 y = -1 := fun y hy hne => by
                      rcases wo_cases MR.out.tv y with e | e | e
                      · exact e
                      · exact absurd ⟨y, hy, op, hoc, hne, e, how⟩ HB.out
                      · exact absurd e (HNT.out y hy)
                    obtain ⟨ix, x, nl, hix, hixe, hx, hw, hmx, -, -, rfl⟩ := lit_at MR.out.tv oko hn
                    have hux : (ints t2)[ix]? = some (.int .i64 x) := by rw [List.getElem?_map, hx]; rfl
                    obtain ⟨g, rfl, _, hct, hcf, hc1, hc2, hput⟩ := MR.out.row.at hux
                    have hixn : (ix : Int) < (n : Int) := by omega
                    have hop2 : (op == 0) = false := by simpa using hop
                    by_cases hneg : op < 0
                    · have p1 := hput (.int .i64 1)
                      have hux2 : ((ints t2).set ix (.int .i64 1))[ix]? = some (.int .i64 1) := by rw [List.getElem?_set_self (by rw [List.length_map, htl]; exact hix)]
                      obtain ⟨g2, hg2, _, hct2, hcf2, _, _, hput2⟩ := p1.at hux2
                      injection hg2 with hg2; injection hg2 with hg2; subst hg2
                      have p2 := hput2 (.int .i64 (-1))
                      have e3 : ((ints t2).set ix (.int .i64 1)).set ix (.int .i64 (-1)) = ints (setL t2 op) := by
                        unfold setL ints; rw [List.set_set, ← hixe, List.map_set]; unfold sg; rw [if_pos hneg]
                      rw [e3] at p2
                      have HP := Lib.hid (MR.out.put HZ.out hoc oko how hot p2)
                      have hnl2 : -op = (ix : Int) + 1 := by rw [Int.max_def] at hmx; split at hmx <;> omega
                      have hmx2 : max op ((ix : Int) + 1) = (ix : Int) + 1 := by rw [← hnl2]; rw [hnl2] at hmx ⊢; exact hmx
                      clear hoc how oko hot hx hux hput p1 hux2 hput2 p2 e3 hixe G2 HB HNT
                      go_wp2_with fail
                      go_roundw
                      case rel => exact ⟨i + 1, setL t2 op, true, by omega, by go_num, rfl, HP.out⟩
                      case measure => simp [intOf]; omega
                    · have p1 := hput (.int .i64 1)
                      have e3 : (ints t2).set ix (.int .i64 1) = ints (setL t2 op) := by
                        unfold setL ints; rw [← hixe, List.map_set]; unfold sg; rw [if_neg hneg]
                      rw [e3] at p1
                      have HP := Lib.hid (MR.out.put HZ.out hoc oko how hot p1)
                      clear hoc how oko hot hx hux hput p1 e3 hixe G2 HB HNT
                      go_wp2_with fail
                      go_roundw
                      case rel => exact ⟨i + 1, setL t2 op, true, by omega, by go_num, rfl, HP.out⟩
                      case measure => simp [intOf]; omega
        · obtain rfl : f.length = i := by omega
          cases ch with
          | false =>
            have HA : Hid (Ans n f m (some t2)) := by
              obtain ⟨h1, h2⟩ := MR.out.no rfl
              rw [List.take_length] at h2
              exact ⟨MR.out.tv, MR.out.up, by rw [h1]; exact h2, MR.out.low⟩
            have HBL := Lib.hid MR.out.row.below
            have htl : t2.length = n := MR.out.tv.1
            have sq : Hid (SeqAt (Value.int .i64) wr vA t2) := by
              have := MR.out.row.own; rw [List.length_map, htl] at this; exact seq_own this
            go_wp2_with fail
            go_ret2
            exact ⟨HBL.out, .inr ⟨t2, vA, vcap, HA.out, by rw [htl]; rfl, sq.out⟩⟩
          | true =>
            have hcc := MR.out.yes rfl
            go_wp2_with fail
            go_roundg (t2.count 0)
            case rel => exact ⟨t2, Nat.le_refl _, MR.out.row, MR.out.tv, MR.out.up, MR.out.low⟩
            case measure => omega
end Go.Proofs.YtpmdnbdmocdngaaGreat
