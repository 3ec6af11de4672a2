/-
  The law TreeDirs' walk, over what the program's tree is to answer.
-/
import Derived.Test.YtlnobekjcengfaaTreeH
namespace Go.Proofs.Ytlnobekjcengfaa
open Go.ChangeShapes Go.WideShapes Go.ChangeAt Go.RowKit Go.Joins
set_option linter.unusedVariables false
set_option linter.unusedSimpArgs false

theorem set_same {b : List Bool} {i : Nat} {v : Bool} (h : b[i]? = some v) : b.set i v = b := by
  apply List.ext_getElem?
  intro j
  rw [List.getElem?_set]
  split
  · rename_i e
    subst e
    rw [h, if_pos (List.getElem?_eq_some_iff.1 h).1]
  · rfl
/-- A slice of three letters, made a text. -/
theorem pt_back (x j : Nat) (hx : x < 2) (hj : j < 4) (w : World) : (convert 52 9 (.slice (some ⟨w.heap.size, 0, none⟩) 3 3)).run Try.prog (w.alloc (.cells #[.int .u8 (100 + (x : Int)), .int .u8 47, .int .u8 (97 + (j : Int))] 5)) = .ok (.string (bs (pt x j))) (w.alloc (.cells #[.int .u8 (100 + (x : Int)), .int .u8 47, .int .u8 (97 + (j : Int))] 5)) := by
  have e1 : ((UInt8.ofNat (100 + x)).toNat : Int) = 100 + (x : Int) := by rw [UInt8.toNat_ofNat']; omega
  have e2 : ((UInt8.ofNat (97 + j)).toNat : Int) = 97 + (j : Int) := by rw [UInt8.toNat_ofNat']; omega
  have := run_convert_bytes_back (P := Try.prog) (w.alloc (.cells #[.int .u8 (100 + (x : Int)), .int .u8 47, .int .u8 (97 + (j : Int))] 5)) 52 9 5 ⟨w.heap.size, 0, none⟩ 3 (pt x j) Try.underlying52 Try.underlying5 Try.underlying9 (fun i hi => by
    have h3 : i < 3 := hi
    have hh : Has (w.alloc (.cells #[.int .u8 (100 + (x : Int)), .int .u8 47, .int .u8 (97 + (j : Int))] 5)) w.heap.size 5 #[.int .u8 (100 + (x : Int)), .int .u8 47, .int .u8 (97 + (j : Int))] := Has.new _ _ _
    rw [add_eq, Nat.zero_add, hh.cell i]
    match i, h3 with
    | 0, _ => show some (Value.int .u8 (100 + (x : Int))) = some (Value.int .u8 ((UInt8.ofNat (100 + x)).toNat : Int)); rw [e1]
    | 1, _ => rfl
    | 2, _ => show some (Value.int .u8 (97 + (j : Int))) = some (Value.int .u8 ((UInt8.ofNat (97 + j)).toNat : Int)); rw [e2])
  exact this
theorem dn_back (x : Nat) (hx : x < 2) (w : World) : (convert 52 9 (.slice (some ⟨w.heap.size, 0, none⟩) 1 1)).run Try.prog (w.alloc (.cells #[.int .u8 (100 + (x : Int))] 5)) = .ok (.string (bs (dn x))) (w.alloc (.cells #[.int .u8 (100 + (x : Int))] 5)) := by
  have := one_back w (100 + x) (by omega)
  rw [show ((100 + x : Nat) : Int) = 100 + (x : Int) by omega] at this
  exact this
theorem shr2_and (z : Nat) (h : z ≤ 255) : bits .and .i64 ((z : Int) / 4) 1 = ((z / 4 % 2 : Nat) : Int) := by
  have : ∀ z : Fin 256, bits .and .i64 ((z.val : Int) / 4) 1 = ((z.val / 4 % 2 : Nat) : Int) := by decide +kernel
  exact this ⟨z, by omega⟩
def d2C : Array Value := #[.string ⟨#[100]⟩, .bool true, .int .i64 0, .string ⟨#[101]⟩, .bool true, .int .i64 0]
theorem ed2_at {w : World} {g : Nat} (hh : Has w g 44 d2C) : EntAt w (.slice (some ⟨g, 0, none⟩) 2 2) ed2 := by
  refine ⟨_, 2, rfl, fun k e he => ⟨g, 0, rfl, ?_⟩⟩
  have hk : k < 2 := (List.getElem?_eq_some_iff.1 he).1
  match k, hk with
  | 0, _ => have : (dn 0, true) = e := Option.some.inj he
            subst this
            exact ⟨hh.cell 0, hh.cell 1, 0, hh.cell 2⟩
  | 1, _ => have : (dn 1, true) = e := Option.some.inj he
            subst this
            exact ⟨hh.cell 3, hh.cell 4, 0, hh.cell 5⟩
theorem ed2_sm : ∀ e ∈ ed2, e.1.length ≤ 140737488351232 := by
  intro e he
  have : e.1.length = 1 := by
    rcases List.mem_cons.1 he with rfl | he
    · rfl
    · rw [List.mem_singleton.1 he]; rfl
  omega
theorem newd2_any {T : TP} (C : TreeC T) {W : World} (w : World) (G : Gw W w) : Calls Try.prog 10 #[.slice (some ⟨w.heap.size, 0, none⟩) 2 2] (w.alloc (.cells #[.string ⟨#[100]⟩, .bool true, .int .i64 0, .string ⟨#[101]⟩, .bool true, .int .i64 0] 44)) fun e w' => ∃ a, e = .returned (.tuple #[.pointer (some a), .int .i64 0]) ∧ Mn T W w' (.pointer (some a)) sd2 :=
  m_new C (G.trans (Gw.alloc _ _)) (ed2_at (Has.new w 44 d2C)) ed2_sm (by decide) newd2
set_option maxRecDepth 100000 in
set_option maxHeartbeats 4000000 in
theorem dirs_walk {T : TP} (C : TreeC T) (aw : AwT) {W : World} {A : Option Addr} {l : List Nat} {cap : Nat} (hl : ByIn W A l) (hc : l.length ≤ cap) (hm : cap ≤ 9223372036854775807) :
    Calls Try.prog 7 #[.slice A l.length cap] W fun e W' => e = .returned (.bool true) ∧ Gw W W' := by
  have hn : ∀ b w, (Op.unary .not (.bool b)).run Try.prog w = .ok (.bool (!b)) w := fun _ _ => rfl
  have AW := aw W
  by_cases h60 : 60 < l.length
  · have h60' : (60 : Int) < l.length := by omega
    go_enter Try.func7, Try.ntmps7
    go_wp2_with (go_at_call 8; with_reducible refine AW.mono ?_; rintro e w1 ⟨rfl, G1⟩)
    go_ret
    exact ⟨rfl, G1⟩
  have h60' : decide ((60 : Int) < l.length) = false := decide_eq_false (by omega)
  have NW := fun w G => newd2_any C (W := W) w G
  go_enter Try.func7, Try.ntmps7
  go_upto_region 8 with (first
    | (go_at_call 8; with_reducible refine AW.mono ?_; rintro e w1 ⟨rfl, G1⟩)
    | (go_at_call 10; with_reducible refine (NW _ G1).mono ?_; rintro e w2 ⟨a, rfl, M⟩))
  have M0 := Lib.hid (M.alloc C (.cells (bC (List.replicate 8 false)) 63))
  clear M NW
  go_upto_region 10 with fail
  go_loopw [6] (fun i wr => ∃ (k : Nat) (s : St) (b : List Bool), k ≤ l.length ∧ i = .int .i64 k ∧ Hid (DirI s b k) ∧ Hid (Mg T W wr (.pointer (some a)) s w2.heap.size (.cells (bC b) 63 (0, 0)))) (fun i _ => l.length - (intOf i).toNat)
  case atStart => exact ⟨0, sd2, List.replicate 8 false, by omega, rfl, dir2, M0.out⟩
  case round =>
    clear M0
    obtain ⟨k, s, b, hk, rfl, HD, HM⟩ := hrel
    by_cases hlt : k < l.length
    · obtain ⟨z, hz⟩ : ∃ z, l[k]? = some z := ⟨_, List.getElem?_eq_getElem hlt⟩
      obtain ⟨g, off, rfl, hg, hcl, hz255⟩ := (hl.on HM.out.gw) k z hz
      obtain ⟨x, hx⟩ : ∃ x : Nat, bits .and .i64 ((z : Int) / 4) 1 = x := ⟨_, shr2_and z hz255⟩
      obtain ⟨j, hj⟩ : ∃ j : Nat, (z : Int) / 8 % 4 = j := ⟨z / 8 % 4, by omega⟩
      have hx2 : x < 2 := by have := shr2_and z hz255; omega
      have hj4 : j < 4 := by omega
      clear hz
      go_upto_region 12 with fail
      go_quiet (fail)
      rw [hj]
      have HM3 := Lib.hid (HM.out.on C (((Gw.refl wr).drewM nq).trans (Gw.alloc _ (.cells #[.int .u8 (100 + (x : Int)), .int .u8 47, .int .u8 (97 + (j : Int))] 5))))
      have hcl3 := ((((Gw.refl wr).drewM nq).trans (Gw.alloc _ (.cells #[.int .u8 (100 + (x : Int)), .int .u8 47, .int .u8 (97 + (j : Int))] 5)))).cell hcl
      clear HM hcl hx hj
      have cv := pt_back x j hx2 hj4 (wr.drewN nq)
      generalize wr.drewN nq = w3 at *
      go_upto_region 14 with fail
      clear cv
      generalize w3.alloc (.cells #[.int .u8 (100 + (x : Int)), .int .u8 47, .int .u8 (97 + (j : Int))] 5) = w4 at *
      go_upto_region 16 with fail
      go_loopw [10, 11] (fun al q wx => ∃ m : Nat, m ≤ 8 ∧ q = .int .i64 m ∧ al = .int .i64 (2 + (ca b m : Int)) ∧ wx = w4) (fun al q _ => 8 - (intOf q).toNat)
      case atStart => exact ⟨0, by omega, rfl, rfl, rfl⟩
      case round =>
        obtain ⟨m, hm8, rfl, rfl, rfl⟩ := hrel
        by_cases hml : m < 8
        · obtain ⟨v, hv⟩ : ∃ v, b[m]? = some v := ⟨_, List.getElem?_eq_getElem (by rw [HD.out.bl]; exact hml)⟩
          have hh : Has wr w2.heap.size 63 (bC b) := HM3.out.hg
          have hcm : wr.cell? ⟨w2.heap.size, m / 4 * 4 + m % 4, none⟩ = some (.bool v) := by
            rw [show m / 4 * 4 + m % 4 = m by omega]; exact (hh.cell m).trans (bC_at hv)
          have hcb : (ca b m : Int) ≤ 8 := by
            have : ca b m ≤ (b.take m).length := List.count_le_length
            rw [List.length_take] at this; omega
          have HN := Lib.hid (ca_next hv)
          clear hv hh
          cases v with
          | true =>
            go_wp2_with fail
            go_roundw
            case rel => exact ⟨m + 1, by omega, by go_num, by rw [HN.out]; simp only [if_true]; go_num, trivial⟩
            case measure => simp [intOf]; omega
          | false =>
            go_wp2_with fail
            go_roundw
            case rel => exact ⟨m + 1, by omega, by go_num, by rw [HN.out]; simp, trivial⟩
            case measure => simp [intOf]; omega
        · have hm8' : m = 8 := by omega
          obtain ⟨N, hN⟩ : ∃ N, N = ca b m := ⟨_, rfl⟩
          rw [← hN]
          rw [hm8'] at hN
          have HN := Lib.hid hN
          have hNl : s.l.length = 2 + N := by rw [HD.out.len, hN]
          have HNL := Lib.hid hNl
          have hN6 : (N : Int) ≤ 6 := by have := HD.out.n8; omega
          clear hN hm8' hNl
          obtain ⟨v, hv⟩ : ∃ v, b[x * 4 + j]? = some v := ⟨_, List.getElem?_eq_getElem (by rw [HD.out.bl]; omega)⟩
          have HV := Lib.hid hv
          have hcell : ∀ w' v' s', Mg T W w' v' s' w2.heap.size (.cells (bC b) 63 (0, 0)) → w'.cell? ⟨w2.heap.size, x * 4 + j, none⟩ = some (.bool v) ∧ w'.frozen? ⟨w2.heap.size, x * 4 + j, none⟩ = false ∧ w'.drew.cell? ⟨w2.heap.size, x * 4 + j, none⟩ = some (.bool v) ∧ w'.drew.frozen? ⟨w2.heap.size, x * 4 + j, none⟩ = false := fun w' v' s' mm =>
            have hh : Has w' w2.heap.size 63 (bC b) := mm.hg
            ⟨(hh.cell _).trans (bC_at hv), hh.free _, (hh.cell _).trans (bC_at hv), hh.free _⟩
          clear hv
          have ps : (bs (pt x j)).size ≤ 140737488351232 := by rw [bs_size]; show 3 ≤ _; decide
          go_upto_if 83 with fail
          go_cut [] (fun wx => ∃ (s : St) (b : List Bool), Hid (DirI s b (k + 1)) ∧ Hid (Mg T W wx (.pointer (some a)) s w2.heap.size (.cells (bC b) 63 (0, 0))))
          case first =>
            cases hq : decide (bits .and .u8 (z : Int) 3 < 2) with
            | true =>
              have MK := g_make C HM3.out HD.out.ok HD.out.n8 (bs (pt x j)) ps false HD.out.nx0 (by have := HD.out.nxk; omega)
              rw [bs_data] at MK
              cases v with
              | true =>
                obtain ⟨ii, hi, hd⟩ := HD.out.yes hx2 hj4 HV.out
                rw [make_there (pt_name hx2 hj4).1 (HD.out.abv0 hx2 hj4) hi] at MK
                simp only [mV] at MK
                clear hi
                go_upto_region 24 with (go_at_call 16; with_reducible refine MK.mono ?_; rintro e w5 ⟨rfl, M5⟩; obtain ⟨c1, f1, c2, f2⟩ := hcell _ _ _ M5)
                have M6 := (M5.on C ((Gw.refl w5).drew)).put C (x * 4 + j) (.bool true)
                rw [bC_set] at M6
                have M6 := Lib.hid M6
                clear M5
                go_region
                go_wp2_with fail
                go_meet
                exact ⟨_, _, by rw [set_same HV.out]; exact HD.out.skip, M6.out⟩
              | false =>
                have hk0 := HD.out.nil hx2 hj4 HV.out
                by_cases h8 : 8 ≤ s.l.length
                · have d8 : decide ((8 : Int) ≤ 2 + (N : Int)) = true := decide_eq_true (by have := HNL.out; omega)
                  have d8' : decide (2 + (N : Int) < 8) = false := decide_eq_false (by have := HNL.out; omega)
                  rw [make_full (pt_name hx2 hj4).1 (HD.out.abv0 hx2 hj4) hk0 h8] at MK
                  simp only [mV] at MK
                  clear hk0 h8
                  go_upto_region 24 with (go_at_call 16; with_reducible refine MK.mono ?_; rintro e w5 ⟨rfl, M5⟩; obtain ⟨c1, f1, c2, f2⟩ := hcell _ _ _ M5)
                  have M6 := (M5.on C ((Gw.refl w5).drew)).put C (x * 4 + j) (.bool false)
                  rw [bC_set] at M6
                  have M6 := Lib.hid M6
                  clear M5
                  go_region
                  go_wp2_with fail
                  go_meet
                  exact ⟨_, _, by rw [set_same HV.out]; exact HD.out.skip, M6.out⟩
                · have d8 : decide ((8 : Int) ≤ 2 + (N : Int)) = false := decide_eq_false (by have := HNL.out; omega)
                  have d8' : decide (2 + (N : Int) < 8) = true := decide_eq_true (by have := HNL.out; omega)
                  rw [make_new (pt_name hx2 hj4).1 (HD.out.abv0 hx2 hj4) hk0 h8] at MK
                  simp only [mV] at MK
                  have HD2 := Lib.hid (HD.out.make hx2 hj4 HV.out (by omega))
                  clear hk0 h8
                  go_upto_region 24 with (go_at_call 16; with_reducible refine MK.mono ?_; rintro e w5 ⟨rfl, M5⟩; obtain ⟨c1, f1, c2, f2⟩ := hcell _ _ _ M5)
                  have M6 := (M5.on C ((Gw.refl w5).drew)).put C (x * 4 + j) (.bool true)
                  rw [bC_set] at M6
                  have M6 := Lib.hid M6
                  clear M5
                  go_region
                  go_wp2_with fail
                  go_meet
                  exact ⟨_, _, HD2.out, M6.out⟩
            | false =>
              have MK := g_drop C HM3.out HD.out.ok HD.out.n8 (bs (pt x j)) ps false
              rw [bs_data] at MK
              cases v with
              | true =>
                obtain ⟨ii, hi, hd⟩ := HD.out.yes hx2 hj4 HV.out
                rw [drop_file (pt_name hx2 hj4).1 (HD.out.abv0 hx2 hj4) hi hd] at MK
                simp only at MK
                have HD2 := Lib.hid (HD.out.drop hx2 hj4 HV.out)
                clear hi hd
                go_upto_region 28 with (go_at_call 17; with_reducible refine MK.mono ?_; rintro e w5 ⟨rfl, M5⟩; obtain ⟨c1, f1, c2, f2⟩ := hcell _ _ _ M5)
                have M6 := M5.put C (x * 4 + j) (.bool false)
                rw [bC_set] at M6
                have M6 := Lib.hid M6
                clear M5
                go_wp2_with fail
                go_meet
                exact ⟨_, _, HD2.out, M6.out⟩
              | false =>
                rw [drop_none (pt_name hx2 hj4).1 (HD.out.abv0 hx2 hj4) (HD.out.nil hx2 hj4 HV.out)] at MK
                simp only at MK
                go_upto_region 28 with (go_at_call 17; with_reducible refine MK.mono ?_; rintro e w5 ⟨rfl, M5⟩; obtain ⟨c1, f1, c2, f2⟩ := hcell _ _ _ M5)
                have M6 := M5.put C (x * 4 + j) (.bool false)
                rw [bC_set] at M6
                have M6 := Lib.hid M6
                clear M5
                go_wp2_with fail
                go_meet
                exact ⟨_, _, by rw [set_same HV.out]; exact HD.out.skip, M6.out⟩
          case rest =>
            obtain ⟨s, b, HD, HM⟩ := hcut
            have hb8 := HD.out.bl
            go_upto_region 30 with fail
            go_loopw [15] (fun i wx => ∃ y : Nat, y ≤ 2 ∧ i = .int .i64 y ∧ Hid (Mg T W wx (.pointer (some a)) s w2.heap.size (.cells (bC b) 63 (0, 0)))) (fun i _ => 2 - (intOf i).toNat)
            case atStart => exact ⟨0, by omega, rfl, HM.out⟩
            case round =>
              clear HM
              obtain ⟨y, hy, rfl, HM⟩ := hrel
              by_cases hyl : y < 2
              · obtain ⟨w6, hw6⟩ : ∃ w, w = wr := ⟨_, rfl⟩
                subst hw6
                go_upto_region 34 with fail
                go_loopw [16, 17] (fun n q wx => ∃ m : Nat, m ≤ 4 ∧ q = .int .i64 m ∧ n = .int .u16 (cx b y m : Int) ∧ wx = w6) (fun n q _ => 4 - (intOf q).toNat)
                case atStart => exact ⟨0, by omega, rfl, by simp [cx], rfl⟩
                case round =>
                  obtain ⟨m, hm4, rfl, rfl, rfl⟩ := hrel
                  by_cases hml : m < 4
                  · obtain ⟨v, hv⟩ : ∃ v, b[y * 4 + m]? = some v := ⟨_, List.getElem?_eq_getElem (by rw [hb8]; omega)⟩
                    have hh : Has wr w2.heap.size 63 (bC b) := HM.out.hg
                    have hcm : wr.cell? ⟨w2.heap.size, y * 4 + m, none⟩ = some (.bool v) := (hh.cell _).trans (bC_at hv)
                    have hcb : (cx b y m : Int) ≤ 8 := by
                      have : cx b y m ≤ ((b.drop (y * 4)).take m).length := List.count_le_length
                      rw [List.length_take] at this; omega
                    have HN := Lib.hid (cx_next hv)
                    clear hv hh
                    cases v with
                    | true =>
                      go_wp2_with fail
                      go_roundw
                      case rel => exact ⟨m + 1, by omega, by go_num, by rw [HN.out]; simp only [if_true]; go_num, trivial⟩
                      case measure => simp [intOf]; omega
                    | false =>
                      go_wp2_with fail
                      go_roundw
                      case rel => exact ⟨m + 1, by omega, by go_num, by rw [HN.out]; simp, trivial⟩
                      case measure => simp [intOf]; omega
                  · have hm8' : m = 4 := by omega
                    obtain ⟨c, hc⟩ : ∃ c, c = cx b y m := ⟨_, rfl⟩
                    rw [← hc]
                    rw [hm8'] at hc
                    have HC := Lib.hid hc
                    have hc4 : (c : Int) ≤ 4 := by
                      have : cx b y 4 ≤ ((b.drop (y * 4)).take 4).length := List.count_le_length
                      rw [List.length_take] at this; omega
                    have cv := dn_back y hyl wr
                    have HM7 := Lib.hid (HM.out.on C (Gw.alloc wr (.cells #[.int .u8 (100 + (y : Int))] 5)))
                    clear hc hm8' HM
                    have ps : (bs (dn y)).size ≤ 140737488351232 := by rw [bs_size]; show 1 ≤ _; decide
                    have MM := g_many C HM7.out HD.out.ok HD.out.n8 (bs (dn y)) ps
                    rw [bs_data, HD.out.mny hyl, ← HC.out] at MM
                    go_upto_region 39 with fail
                    generalize wr.alloc (.cells #[.int .u8 (100 + (y : Int))] 5) = w7 at *
                    by_cases hc0 : c = 0
                    · have d0 : ¬ 0 < c := by omega
                      clear hc0
                      go_wp2_with (go_at_call 19; with_reducible refine MM.mono ?_; rintro e w8 ⟨rfl, M8⟩)
                      go_roundw
                      case rel => exact ⟨y + 1, by omega, by go_num, M8⟩
                      case measure => simp [intOf]; omega
                    · have d0 : 0 < c := by omega
                      have hfl := HD.out.full hyl (by have := HC.out; omega)
                      clear hc0
                      go_wp2_with (first
                        | (go_at_call 19; with_reducible refine MM.mono ?_; rintro e w8 ⟨rfl, M8⟩; have FD := g_drop C M8 HD.out.ok HD.out.n8 (bs (dn y)) ps true; rw [bs_data, hfl] at FD; simp only at FD)
                        | (go_at_call 17; with_reducible refine FD.mono ?_; rintro e w9 ⟨rfl, M9⟩))
                      go_roundw
                      case rel => exact ⟨y + 1, by omega, by go_num, M9⟩
                      case measure => simp [intOf]; omega
              · have hy2 : decide ((y : Int) < 2) = false := decide_eq_false (by omega)
                go_wp2_with fail
                go_roundw
                case rel => exact ⟨k + 1, s, b, by omega, by go_num, HD.out, HM.out⟩
                case measure => simp [intOf]; omega
    · have hlt' : decide ((k : Int) < (l.length : Int)) = false := decide_eq_false (by omega)
      go_wp2_with fail
      go_ret
      exact ⟨rfl, HM.out.gw⟩
end Go.Proofs.Ytlnobekjcengfaa
