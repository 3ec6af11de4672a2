/-
  Part of the law ClauseEvals: its walk.
-/
import Derived.Test.YtdgmjdppiolkkaaClauW
import Derived.Test.YtdgmjdppiolkkaaClauR
import Derived.Laws.AppendOwnNone
import Derived.ProofKit
namespace Go.Proofs.Ytdgmjdppiolkkaa.clauseEvals
open Go.ChangeShapes Go.WideShapes Go.ChangeAt Go.RowKit
set_option linter.unusedVariables false

theorem infoRow : (Try.prog.info? 27).map (fun i => (i.zero, i.size, i.bytes)) = some (some (.slice none 0 0), 1, 24) := by kernel_rfl
/-- How the clauses stand in a row of values. -/
def RowsOK (w : World) (news : List Value) (f : List (List Int)) : Prop := news.length = f.length ∧ ∀ (i : Nat) (c : List Int), f[i]? = some c → ∃ B cap, news[i]? = some (.slice B c.length cap) ∧ SeqAt (Value.int .i64) w B c ∧ c.length ≤ 9223372036854775807
theorem RowsOK.keep {w w' : World} {news : List Value} {f : List (List Int)} (h : RowsOK w news f) (b : Below w.heap.size w w') : RowsOK w' news f :=
  ⟨h.1, fun i c hc => by obtain ⟨B, cap, h1, h2, h3⟩ := h.2 i c hc; exact ⟨B, cap, h1, h2.keep b, h3⟩⟩
theorem RowsOK.append {w : World} {n1 n2 : List Value} {f g : List (List Int)} (h : RowsOK w n1 f) (k : RowsOK w n2 g) : RowsOK w (n1 ++ n2) (f ++ g) := by
  refine ⟨by rw [List.length_append, List.length_append, h.1, k.1], fun i c hc => ?_⟩
  by_cases hi : i < f.length
  · rw [List.getElem?_append_left hi] at hc
    rw [List.getElem?_append_left (by rw [h.1]; exact hi)]; exact h.2 i c hc
  · rw [List.getElem?_append_right (by omega)] at hc
    rw [List.getElem?_append_right (by rw [h.1]; omega), h.1]; exact k.2 _ c hc
theorem form_cells {w : World} {A : Option Addr} {f : List (List Int)} (h : FormAt w A f) : ∃ news, RowsOK w news f ∧ ∀ (i : Nat) (u : Value), news[i]? = some u → ∃ a, A = some a ∧ w.cell? (a.add i) = some u := by
  have key : ∀ k, k ≤ f.length → ∃ news : List Value, RowsOK w news (f.take k) ∧ ∀ (i : Nat) (u : Value), news[i]? = some u → ∃ a, A = some a ∧ w.cell? (a.add i) = some u := by
    intro k
    induction k with
    | zero => exact fun _ => ⟨[], ⟨by simp, fun i c hc => by simp at hc⟩, fun i u hu => by simp at hu⟩
    | succ k ih =>
      intro hk
      obtain ⟨news, h1, h2⟩ := ih (by omega)
      have hlk : (f.take k).length = k := by rw [List.length_take]; omega
      obtain ⟨c, hc⟩ : ∃ c, f[k]? = some c := ⟨_, List.getElem?_eq_getElem (by omega)⟩
      obtain ⟨a, B, cap, ha, hce, hs, hl⟩ := h.get k c hc
      have e : f.take (k + 1) = f.take k ++ [c] := by
        rw [List.take_succ_eq_append_getElem (by omega), (List.getElem?_eq_some_iff.1 hc).2]
      refine ⟨news ++ [.slice B c.length cap], ?_, fun i u hu => ?_⟩
      · rw [e]
        refine h1.append ⟨rfl, fun i d hd => ?_⟩
        have hi := (List.getElem?_eq_some_iff.1 hd).1
        obtain rfl : i = 0 := by simpa using hi
        simp at hd; subst hd
        exact ⟨B, cap, rfl, hs, hl⟩
      · by_cases hi : i < news.length
        · rw [List.getElem?_append_left hi] at hu; exact h2 i u hu
        · rw [List.getElem?_append_right (by omega)] at hu
          have hi2 := (List.getElem?_eq_some_iff.1 hu).1
          have hn : news.length = k := by rw [h1.1, hlk]
          simp at hi2
          obtain rfl : i = k := by omega
          rw [hn, Nat.sub_self] at hu
          simp at hu; subst hu
          exact ⟨a, ha, hce⟩
  obtain ⟨news, h1, h2⟩ := key f.length (Nat.le_refl _)
  rw [List.take_length] at h1
  exact ⟨news, h1, h2⟩
theorem rows_cells {w : World} {news : List Value} {f : List (List Int)} (h : RowsOK w news f) : ∀ u ∈ news, u.oneCell' = true := by
  intro u hu
  obtain ⟨i, hi, rfl⟩ := List.mem_iff_getElem.1 hu
  obtain ⟨B, cap, h1, _⟩ := h.2 i _ (List.getElem?_eq_getElem (by rw [← h.1]; exact hi))
  rw [List.getElem?_eq_getElem hi] at h1
  injection h1 with h1; rw [h1]; rfl
theorem own_form2 {w : World} {base : Nat} {X : Option Addr} {n cap : Nat} {news : List Value} {f : List (List Int)} (h : w.ownsRow base 27 1 (.slice X n cap) n news) (k : RowsOK w news f) (hw : ∀ c ∈ f, ∀ l ∈ c, Wf l) : FormAt w X f := by
  refine ⟨fun i c hc => ?_, fun a ha => ?_, hw⟩
  · obtain ⟨B, bcap, h1, h2, h3⟩ := k.2 i c hc
    have hi := (List.getElem?_eq_some_iff.1 h1).1
    have hn : news.length = n := by have := h.1; simpa using this
    rcases h.2 with ⟨h0, h4⟩ | ⟨g, c2, cur, h0, _, hg, _⟩
    · omega
    · injection h0 with h0 h5 h6; subst h0; subst h6
      refine ⟨_, B, bcap, rfl, ?_, h2, h3⟩
      rw [add_at, World.ownsRow.cellAt h i (by omega), h1]
  · rcases h.2 with ⟨h0, _⟩ | ⟨g, c2, cur, h0, _, hg, _⟩
    · injection h0 with h0; subst h0; cases ha
    · injection h0 with h0; subst h0; injection ha with ha; subst ha; exact lt_of_heap hg
theorem app_any {P : Program} {w : World} {ops : Array Oper} {rest : List Oper} {o : Oper} {a : Act} {Q : Exit → Act → World → Prop} (hgd : o.guard = none) (s x : Operand) (t : TypeId)
    (ho : o.op = .call { callee := .builtin .append, args := #[s, x], argTypes := #[t, t] })
    (wr : World) (e : TypeId) (i : TypeInfo) (z : Value) (bytes : Nat) (ht : P.underlying t = some (.slice e)) (hi : P.info? e = some i) (hz : i.zero = some z)
    (hsize : i.size = 1) (hby : i.bytes = bytes) (hzs : z.cells.size = 1)
    (v : Value) (n : Nat) (xs : List Value) (hs : a.eval s = v) (hown : w.ownsRow wr.heap.size e 1 v n xs) (hb : Below wr.heap.size wr w)
    (X : Option Addr) (m c : Nat) (news : List Value) (hx : a.eval x = .slice X m c) (hnil : X = none → m = 0 ∧ c = 0) (hl : news.length = m) (hnews : ∀ j u, news[j]? = some u → ∃ ad, X = some ad ∧ w.cell? (ad.add j) = some u) (h1 : ∀ u ∈ news, u.oneCell' = true)
    (h63 : n + m ≤ maxLen) (hbytes : (n + m) * bytes ≤ 140737488355328)
    (h : ∀ v' w', w'.ownsRow wr.heap.size e 1 v' (n + m) (xs ++ news) → Below wr.heap.size wr w' → wpList P ops Q rest (a.put o.dst v') w') : wpList P ops Q (o :: rest) a w := by
  cases X with
  | none =>
    obtain ⟨rfl, rfl⟩ := hnil rfl
    have : news = [] := List.eq_nil_of_length_eq_zero hl
    subst this
    exact wpList_append_own_none hgd s x t ho wr.heap.size e i 1 ht hi v n xs hs hown hx (h v w (by simpa using hown) hb)
  | some ad =>
    refine wpList_append_own w hgd s x t ho wr.heap.size e i z 1 bytes ht hi hz hsize hby hzs (by omega) v n xs hs hown ad m c news hx (by omega) (fun j u hu => by
      obtain ⟨a2, h2, h3⟩ := hnews j u hu
      injection h2 with h2; subst h2; exact h3) h1 h63 hbytes hb.size fun v' w' h2 h3 _ => h v' w' h2 (hb.grown h3 hb.size fun k hk => ?_)
    rcases hown.2 with ⟨h0, _⟩ | ⟨g', c, cur, h0, hb, _⟩
    · subst h0; simp [Value.ownBlock] at hk
    · subst h0; simp [Value.ownBlock] at hk; omega
theorem eval_app (m : List Bool) (f g : List (List Int)) : evalM m (f ++ g) = (evalM m f && evalM m g) := by unfold evalM; rw [List.all_append]
theorem own_shape {w : World} {base : Nat} {e : TypeId} {v : Value} {n : Nat} {xs : List Value} (h : w.ownsRow base e 1 v n xs) : ∃ X cap, v = .slice X n cap := by
  rcases h.2 with ⟨h0, h1⟩ | ⟨g, c, cur, h0, _⟩
  · exact ⟨none, 0, by rw [h0, h1]⟩
  · exact ⟨_, c, h0⟩
set_option maxHeartbeats 3200000 in
set_option maxRecDepth 100000 in
theorem walk (v0 v1 v2 : Value) (w : World) (h0 : FormIn w v0) (h1 : FormIn w v1) (h2 : BoolsIn w v2) (n0 : ∀ n c, v0 = .slice none n c → n = 0 ∧ c = 0) (n1 : ∀ n c, v1 = .slice none n c → n = 0 ∧ c = 0)
    (l0 : ∀ A n c, v0 = .slice A n c → n ≤ 1048576) (l1 : ∀ A n c, v1 = .slice A n c → n ≤ 1048576) :
    Calls Try.prog 8 #[v0, v1, v2] w fun e w' => e = .returned (.bool true) ∧ Below w.heap.size w w' := by
  obtain ⟨A, f, cap, rfl, hf, hl⟩ := h0
  obtain ⟨B, g, gcap, rfl, hg, hgl⟩ := h1
  obtain ⟨M, m, mcap, rfl, hm, hml⟩ := h2
  have hf2 : f.length ≤ 1048576 := l0 _ _ _ rfl
  have hg2 : g.length ≤ 1048576 := l1 _ _ _ rfl
  have HN0 := Lib.hid (fun (e : A = none) => n0 f.length cap (by rw [e]))
  have HN1 := Lib.hid (fun (e : B = none) => n1 g.length gcap (by rw [e]))
  have HF := Lib.hid hf
  have HG := Lib.hid hg
  have HM := Lib.hid hm
  clear hf hg hm n0 n1 l0 l1
  obtain ⟨nf, hnf, hcf⟩ := form_cells HF.out
  obtain ⟨ng, hng, hcg⟩ := form_cells HG.out
  have HRF := Lib.hid hnf
  have HRG := Lib.hid hng
  have HCF := Lib.hid hcf
  have HCG := Lib.hid hcg
  clear hnf hng hcf hcg
  obtain ⟨i0, hi, hz0, hz1, hz2⟩ := info_parts infoRow
  have HI := Lib.hid (show _ ∧ _ ∧ _ ∧ _ from ⟨hi, hz0, hz1, hz2⟩)
  clear hi hz0 hz1 hz2
  go_enter Try.func8, Try.ntmps8
  go_wp2_with fail
  refine (awake_any _).mono ?_
  rintro e w1 ⟨rfl, hb1⟩
  have HB1 := Lib.hid hb1
  have HF1 := Lib.hid (HF.out.keep hb1)
  have HG1 := Lib.hid (HG.out.keep hb1)
  have HM1 := Lib.hid (HM.out.keep hb1)
  clear hb1
  go_wp2_with fail
  refine (small_any A f cap 1000 w1 HF1.out hl).mono ?_
  rintro e w2 ⟨b, rfl, rfl⟩
  cases b
  · go_wp2_with fail
    go_ret
    exact ⟨rfl, HB1.out⟩
  go_wp2_with fail
  refine (small_any B g gcap 1000 w1 HG1.out hgl).mono ?_
  rintro e w2 ⟨b, rfl, rfl⟩
  cases b
  · go_wp2_with fail
    go_ret
    exact ⟨rfl, HB1.out⟩
  by_cases hc : (300 : Int) < (m.length : Int)
  · go_wp2_with fail
    go_ret
    exact ⟨rfl, HB1.out⟩
  have hc' : (m.length : Int) ≤ 300 := by omega
  clear hc
  go_wp2_with fail
  refine (evalB HF1.out hl HM1.out hml rfl).mono ?_
  rintro e w2 ⟨rfl, hb2⟩
  have HB2 := Lib.hid (Below.on HB1.out hb2)
  have HG2 := Lib.hid (HG1.out.keep hb2)
  have HM2 := Lib.hid (HM1.out.keep hb2)
  clear hb2
  go_wp2_with fail
  refine (evalB HG2.out hgl HM2.out hml rfl).mono ?_
  rintro e w3 ⟨rfl, hb3⟩
  have HB3 := Lib.hid (Below.on HB2.out hb3)
  have HM3 := Lib.hid (HM2.out.keep hb3)
  clear hb3
  have HO := Lib.hid (World.ownsRow_lit (base := w3.heap.size) (e := 27) (size := 1) w3 #[] 0 (Nat.le_refl _) (Nat.zero_le _) rfl)
  have HRFL := Lib.hid HRF.out.1
  have HRGL := Lib.hid HRG.out.1
  go_wp2_with (first
    | (at_builtin; refine app_any rfl (.tmp 31) (.tmp 32) _ rfl w3 27 i0 (.slice none 0 0) 24 Try.underlying22 HI.out.1 HI.out.2.1 HI.out.2.2.1 HI.out.2.2.2 rfl (.slice (some ⟨w3.heap.size, 0, none⟩) 0 0) 0 [] rfl HO.out (below_alloc w3 _) A f.length cap nf rfl HN0.out HRFL.out (fun j u hu => by
        obtain ⟨a2, h2, h3⟩ := HCF.out j u hu
        exact ⟨a2, h2, ((Below.plus HB3.out _).cell (p := a2.add j) (by rw [add_block]; exact HF.out.lt a2 h2)).trans h3⟩) (rows_cells HRF.out) (by unfold maxLen; omega) (by omega) ?_; intro v4 w4 ho4 hb4; rw [Nat.zero_add, List.nil_append] at ho4; obtain ⟨X4, c4, rfl⟩ := own_shape ho4; have HO4 := Lib.hid ho4; have HB4 := Lib.hid hb4; clear ho4 hb4)
    | (at_builtin; refine app_any rfl (.tmp 33) (.tmp 34) _ rfl w3 27 i0 (.slice none 0 0) 24 Try.underlying22 HI.out.1 HI.out.2.1 HI.out.2.2.1 HI.out.2.2.2 rfl (.slice X4 f.length c4) f.length nf rfl HO4.out HB4.out B g.length gcap ng rfl HN1.out HRGL.out (fun j u hu => by
        obtain ⟨a2, h2, h3⟩ := HCG.out j u hu
        exact ⟨a2, h2, ((Below.on HB3.out HB4.out).cell (p := a2.add j) (by rw [add_block]; exact HG.out.lt a2 h2)).trans h3⟩) (rows_cells HRG.out) (by unfold maxLen; omega) (by omega) ?_; intro v5 w5 ho5 hb5; obtain ⟨X5, c5, rfl⟩ := own_shape ho5; have HO5 := Lib.hid ho5; have HB5 := Lib.hid hb5; clear ho5 hb5))
  have HFF := Lib.hid (own_form2 (f := f ++ g) HO5.out ((HRF.out.keep (Below.on HB3.out HB5.out)).append (HRG.out.keep (Below.on HB3.out HB5.out))) (fun c hc => by
    rcases List.mem_append.1 hc with h | h
    · exact HF.out.wf c h
    · exact HG.out.wf c h))
  have HB6 := Lib.hid (Below.on HB3.out HB5.out)
  have HM5 := Lib.hid (HM3.out.keep HB5.out)
  rw [← List.length_append]
  have HEV := Lib.hid (eval_app m f g)
  have hfg : (f ++ g).length ≤ 9223372036854775807 := by rw [List.length_append]; omega
  refine (evalB HFF.out hfg HM5.out hml HEV.out).mono ?_
  rintro e w6 ⟨rfl, hb6⟩
  have HB7 := Lib.hid (Below.on HB6.out hb6)
  clear hb6
  have hq : ((evalM m f && evalM m g) == (evalM m f && evalM m g)) = true := by simp
  generalize evalM m f = p at *
  generalize evalM m g = q at *
  cases p <;> cases q
  all_goals
    go_wp2_with fail
    go_ret
    exact ⟨rfl, HB7.out⟩
end Go.Proofs.Ytdgmjdppiolkkaa.clauseEvals
