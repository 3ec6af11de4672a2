/-
  Parts of the proof, joined: NameB.
-/
import Derived.Test.YtckoapfmfpmdgaaMp01
import Derived.Laws.IdiomStrings
import Derived.BigRegion
import Derived.Deep.RegionLaw
import Derived.Deep.CutBlock
import Derived.Deep.CutRange
import Derived.Deep.DeepCutAuto

namespace Go.Proofs.Ytckoapfmfpmdgaa
open Go.ChangeShapes Go.WideShapes Go.ChangeAt Go.RowKit Go.Joins
set_option linter.unusedVariables false

def pstr (p : List UInt8) : Value := .string ⟨p.toArray⟩
/-- A row of texts of the call's own. -/
structure TRel (w wr : World) (g cap : Nat) (ps : List (List UInt8)) : Prop where
  own : wr.ownsRow w.heap.size 9 1 (.slice (some ⟨g, 0, none⟩) ps.length cap) ps.length (ps.map pstr)
  gw : Gw w wr
theorem TRel.put {w wr : World} {g cap : Nat} {ps : List (List UInt8)} {c : UInt8} (h : TRel w wr g cap ps) (hc : ¬ c.toNat = 47) (h0 : 0 < ps.length) {o : Obj} :
    TRel w ((wr.alloc o).setCell ⟨g, ps.length - 1, none⟩ (pstr (ps.getLastD [] ++ [c]))) g cap (addC ps c) := by
  have h1 := h.own.alloc o
  have hb := (h.own.lt g rfl).1
  refine ⟨?_, (But.set g _ _ _).gw (h.gw.trans (Gw.alloc wr o)) hb⟩
  have h2 := (World.ownsRow.stored h1 (ps.length - 1) (pstr (ps.getLastD [] ++ [c]))).1
  rw [addC_len ps c hc h0]
  have e : (addC ps c).map pstr = (ps.map pstr).set (ps.length - 1) (pstr (ps.getLastD [] ++ [c])) := by
    unfold addC
    rw [if_neg hc]
    obtain ⟨qs, q, rfl⟩ : ∃ qs q, ps = qs ++ [q] := by
      obtain ⟨qs, q, e⟩ := List.eq_nil_or_concat ps |>.resolve_left (by intro e; rw [e] at h0; simp at h0)
      exact ⟨qs, q, by simpa using e⟩
    simp
  rw [e]
  exact h2
theorem TRel.cell {w wr : World} {g cap : Nat} {ps : List (List UInt8)} (h : TRel w wr g cap ps) {i : Nat} {p : List UInt8} (hp : ps[i]? = some p) : wr.cell? ⟨g, i, none⟩ = some (.string ⟨p.toArray⟩) := by
  have hi := (List.getElem?_eq_some_iff.1 hp).1
  rw [World.ownsRow.cellAt h.own i (by omega), List.getElem?_map, hp]
  rfl
theorem last_at {ps : List (List UInt8)} (h0 : 0 < ps.length) : ps[ps.length - 1]? = some (ps.getLastD []) := by
  rw [List.getLastD_eq_getLast?, List.getLast?_eq_getElem?, List.getElem?_eq_getElem (by omega)]
  rfl
theorem getLastD_mem {ps : List (List UInt8)} (h0 : 0 < ps.length) : ps.getLastD [] ∈ ps := List.mem_of_getElem? (last_at h0)
theorem parts_take {l : List UInt8} {k : Nat} {c : UInt8} (h : l[k]? = some c) : parts (l.take (k + 1)) = addC (parts (l.take k)) c := by
  obtain ⟨hi, he⟩ := List.getElem?_eq_some_iff.1 h
  rw [List.take_succ_eq_append_getElem hi, he, parts_snoc]
theorem parts_len (l : List UInt8) : ∀ k, k ≤ l.length → (parts (l.take k)).length ≤ k + 1 ∧ ∀ p ∈ parts (l.take k), p.length ≤ k
  | 0, _ => ⟨by simp [parts], fun p hp => by simp [parts] at hp; subst hp; simp⟩
  | k + 1, hk => by
    obtain ⟨ih1, ih2⟩ := parts_len l k (by omega)
    obtain ⟨c, hc⟩ : ∃ c, l[k]? = some c := ⟨_, List.getElem?_eq_getElem (by omega)⟩
    rw [parts_take hc]
    unfold addC
    have hp := parts_pos (l.take k)
    split
    · refine ⟨by simp; omega, fun p hq => ?_⟩
      rcases List.mem_append.1 hq with hq | hq
      · have := ih2 p hq; omega
      · simp at hq; subst hq; simp
    · refine ⟨by simp; omega, fun p hq => ?_⟩
      rcases List.mem_append.1 hq with hq | hq
      · have := ih2 p (List.dropLast_subset _ hq); omega
      · simp only [List.mem_singleton] at hq
        subst hq
        have := ih2 _ (getLastD_mem hp)
        simp only [List.length_append, List.length_cons, List.length_nil]
        omega
theorem infoStr : (Try.prog.info? 9).map (fun i => (i.zero, i.size, i.bytes)) = some (some (.string ⟨#[]⟩), 1, 16) := by kernel_rfl
theorem info_str : ∃ i, Try.prog.info? 9 = some i ∧ i.zero = some (.string ⟨#[]⟩) ∧ i.size = 1 ∧ i.bytes = 16 := by
  have h := infoStr
  cases hi : Try.prog.info? 9 with
  | none => rw [hi] at h; simp at h
  | some i =>
    rw [hi] at h
    simp only [Option.map_some, Option.some.injEq, Prod.mk.injEq] at h
    exact ⟨i, rfl, h.1, h.2.1, h.2.2⟩
theorem one_back (w : World) (d : Nat) (hd : d ≤ 255) : (convert 52 9 (.slice (some ⟨w.heap.size, 0, none⟩) 1 1)).run Try.prog (w.alloc (.cells #[.int .u8 d] 5)) = .ok (.string ⟨#[UInt8.ofNat d]⟩) (w.alloc (.cells #[.int .u8 d] 5)) := by
  have := run_convert_bytes_back (P := Try.prog) (w.alloc (.cells #[.int .u8 d] 5)) 52 9 5 ⟨w.heap.size, 0, none⟩ 1 [UInt8.ofNat d] Try.underlying52 Try.underlying5 Try.underlying9 (fun j hj => by
    obtain rfl : j = 0 := by simp at hj; omega
    rw [add_eq, World.cell?_alloc_new]
    have e : ((UInt8.ofNat d).toNat : Int) = d := by rw [UInt8.toNat_ofNat']; omega
    show some (Value.int .u8 d) = some (Value.int .u8 ((UInt8.ofNat d).toNat : Int))
    rw [e])
  exact this
theorem cat_one (p : List UInt8) (c : UInt8) : (⟨p.toArray⟩ : ByteArray) ++ ⟨#[c]⟩ = ⟨(p ++ [c]).toArray⟩ := by
  apply bytes_inj
  rw [data_append]
theorem nameB_no {l : List UInt8} {k : Nat} {c : UInt8} (h : l[k]? = some c) (h1 : c.toNat ≠ 47) (h2 : chOk c = false) : nameB l = false := by
  have : l.all (fun c => decide (c.toNat = 47) || chOk c) = false := by
    rw [List.all_eq_false]
    exact ⟨c, List.mem_of_getElem? h, by rw [h2, decide_eq_false h1]; decide⟩
  unfold nameB
  rw [this]
  simp
theorem TRel.cut {w wr w' : World} {g g1 cap c1 : Nat} {ps : List (List UInt8)} {c : UInt8} {o : Obj} (h : TRel w wr g cap ps) (hc : c.toNat = 47) (ho : w'.ownsRow w.heap.size 9 1 (.slice (some ⟨g1, 0, none⟩) (ps.length + 1) c1) (ps.length + 1) (ps.map pstr ++ [.string ⟨#[]⟩]))
    (hg : (wr.alloc o).grownBy w' (Value.slice (some ⟨g, 0, none⟩) ps.length cap).ownBlock) : TRel w w' g1 c1 (addC ps c) := by
  have hb := (h.own.lt g rfl).1
  refine ⟨?_, (h.gw.trans (Gw.alloc wr o)).grown hg fun k hk => ?_⟩
  · unfold addC
    rw [if_pos hc, List.length_append, List.map_append]
    exact ho
  · simp [Value.ownBlock] at hk
    omega
set_option maxRecDepth 100000 in
set_option maxHeartbeats 4000000 in
theorem rname_any (s : ByteArray) (W : World) : Calls Try.prog 44 #[.string s] W fun e W' => e = .returned (.bool (nameB s.data.toList)) ∧ Gw W W' := by
  obtain ⟨l, hl⟩ : ∃ l, l = s.data.toList := ⟨_, rfl⟩
  have hsz : s.size = l.length := by rw [hl, Array.length_toList]; rfl
  rw [← hl]
  by_cases h1 : s.size < 1
  · have hb : nameB l = false := by unfold nameB; rw [decide_eq_false (by omega : ¬ 1 ≤ l.length)]; rfl
    rw [hb]
    have h1' : (s.size : Int) < 1 := by omega
    clear hb hl hsz
    go_enter Try.func44, Try.ntmps44
    go_wp2
    go_ret
    exact ⟨rfl, Gw.refl _⟩
  by_cases h8 : 8 < s.size
  · have hb : nameB l = false := by unfold nameB; rw [decide_eq_false (by omega : ¬ l.length ≤ 8)]; simp
    rw [hb]
    have h8' : (8 : Int) < s.size := by omega
    have h1' : decide ((s.size : Int) < 1) = false := decide_eq_false (by omega)
    clear hb hl hsz
    go_enter Try.func44, Try.ntmps44
    go_wp2
    go_ret
    exact ⟨rfl, Gw.refl _⟩
  have h1' : decide ((s.size : Int) < 1) = false := decide_eq_false (by omega)
  have h8' : decide ((8 : Int) < s.size) = false := decide_eq_false (by omega)
  have HL := Lib.hid hl
  have HSZ := Lib.hid hsz
  have hk8 : l.length ≤ 8 := by omega
  have hk1 : 1 ≤ l.length := by omega
  clear hl hsz
  obtain ⟨i0, hi1, hi2, hi3, hi4⟩ := info_str
  have HI := Lib.hid (show _ ∧ _ ∧ _ ∧ _ from ⟨hi1, hi2, hi3, hi4⟩)
  clear hi1 hi2 hi3 hi4
  go_enter Try.func44, Try.ntmps44
  go_upto_region 4 with fail
  have T0 : Hid (TRel W (W.alloc (.cells #[.string ⟨#[]⟩] 9)) W.heap.size 1 (parts (l.take 0))) := ⟨World.ownsRow_lit (e := 9) (size := 1) W #[.string ⟨#[]⟩] 1 (Nat.le_refl _) (by decide) rfl, Gw.alloc W _⟩
  go_wp2_with fail
  go_loopw [3, 4] (fun v i wr => ∃ (k g cap : Nat), k ≤ l.length ∧ i = .int .i64 k ∧ v = .slice (some ⟨g, 0, none⟩) (parts (l.take k)).length cap ∧ Hid (TRel W wr g cap (parts (l.take k))) ∧ Hid ((l.take k).all (fun c => decide (c.toNat = 47) || chOk c) = true)) (fun _ i _ => l.length - (intOf i).toNat)
  case atStart => exact ⟨0, _, 1, by omega, rfl, rfl, T0.out, by simp [Hid]⟩
  case round =>
    obtain ⟨k, g, cap, hk, rfl, rfl, T, HA⟩ := hrel
    by_cases hlt : k < l.length
    · obtain ⟨c, hc⟩ : ∃ c, l[k]? = some c := ⟨_, List.getElem?_eq_getElem hlt⟩
      have hlt' : k < s.size := by rw [HSZ.out]; exact hlt
      have hck := byte_at HL.out hc hlt'
      have HC := Lib.hid hc
      have hpl := parts_len l k (by omega)
      have hp0 := parts_pos (l.take k)
      have HP := Lib.hid (parts_take hc)
      have HTA := Lib.hid (all_take (p := fun c => decide (c.toNat = 47) || chOk c) hc)
      clear hc
      go_upto_region 9 with fail
      by_cases h47 : c.toNat = 47
      · have e47 : ((c.toNat : Nat) : Int) = 47 := by omega
        have HT := Lib.hid T.out.own
        have HG := Lib.hid T.out.gw
        have hgs := HG.out.size
        have hpn : (parts (l.take k)).length ≤ 9 := by omega
        go_wp2_with (at_builtin; refine wpList_append_lies _ rfl _ _ _ rfl W.heap.size 9 i0 _ 1 16 Try.underlying129 HI.out.1 HI.out.2.1 HI.out.2.2.1 HI.out.2.2.2 rfl (by omega) (.slice (some ⟨g, 0, none⟩) (parts (l.take k)).length cap) (parts (l.take k)).length ((parts (l.take k)).map pstr) rfl (HT.out.alloc _) ⟨_, 0, none⟩ 1 1 [.string ⟨#[]⟩] rfl rfl (World.news_of_block (cs := #[.string ⟨#[]⟩]) (t := 9) (fr := (0, 0)) (heap_alloc_new _ _)) (by simp [Value.oneCell']) (by omega) (by unfold maxLen; omega) (by omega) (by simp; omega) _ rfl ?_; intro g1 c1 wp hown1 hg1 hat1 hlt1)
        go_roundw
        case rel =>
          refine ⟨k + 1, g1, c1, by omega, by go_num, ?_, ?_, ?_⟩
          · rw [HP.out, addC, if_pos h47, List.length_append]; rfl
          · rw [HP.out]; exact T.out.cut h47 hown1 hg1
          · rw [HTA.out, HA.out, decide_eq_true h47]; rfl
        case measure => simp [intOf]; omega
      · have e47 : ((c.toNat : Nat) : Int) ≠ 47 := by omega
        have e47' : decide (((c.toNat : Nat) : Int) = 47) = false := decide_eq_false e47
        have hch : chOk c = (decide (97 ≤ c.toNat) && decide (c.toNat ≤ 122) || decide (48 ≤ c.toNat) && decide (c.toNat ≤ 57) || decide (c.toNat = 46) || decide (c.toNat = 95)) := rfl
        have HCH := Lib.hid hch
        have HT := Lib.hid T.out.own
        have HG := Lib.hid T.out.gw
        have hgs := HG.out.size
        have hpn : (parts (l.take k)).length ≤ 9 := by omega
        have cc := T.out.cell (last_at hp0)
        have cf : wr.frozen? ⟨g, (parts (l.take k)).length - 1, none⟩ = false := World.ownsRow.frozenAt HT.out _
        have c255 : c.toNat ≤ 255 := by have := c.toNat_lt; omega
        have hone := fun w => one_back w c.toNat c255
        have hlast := hpl.2 _ (getLastD_mem hp0)
        have hz := Lib.hid hck
        clear hch hck
        generalize hd : c.toNat = d at *
        have HW := Lib.hid (show TRel W ((wr.alloc (.cells #[.int .u8 d] 5)).setCell ⟨g, (parts (l.take k)).length - 1, none⟩ (pstr ((parts (l.take k)).getLastD [] ++ [c]))) g cap (addC (parts (l.take k)) c) from T.out.put (by omega) hp0)
        have hcd : c = UInt8.ofNat d := by rw [← hd]; simp
        by_cases ok : chOk c = true
        · have h4 : (97 ≤ d ∧ d ≤ 122) ∨ (d < 97 ∧ 48 ≤ d ∧ d ≤ 57) ∨ d = 46 ∨ d = 95 := by
            rw [HCH.out] at ok
            simp only [Bool.or_eq_true, Bool.and_eq_true, decide_eq_true_eq] at ok
            omega
          have hal : (l.take (k + 1)).all (fun c => decide (c.toNat = 47) || chOk c) = true := by rw [HTA.out, HA.out, ok]; simp
          have HAL := Lib.hid hal
          have HCD := Lib.hid hcd
          clear ok hal hcd
          rcases h4 with ⟨a, b⟩ | ⟨a, b, b'⟩ | a | a
          · have f1 : decide ((97 : Int) ≤ d) = true := decide_eq_true (by omega)
            have f2 : decide ((d : Int) ≤ 122) = true := decide_eq_true (by omega)
            clear a b
            go_upto_region 15 with fail
            clear f1 f2
            have hone1 := Lib.hid (hone wr.drew)
            obtain ⟨m, hm⟩ : ∃ m, (parts (l.take k)).length = m + 1 := ⟨(parts (l.take k)).length - 1, by omega⟩
            have hone2 : (convert 52 9 (.slice (some ⟨wr.heap.size, 0, none⟩) 1 1)).run Try.prog (wr.alloc (.cells #[.int .u8 d] 5)).drew = .ok (.string ⟨#[UInt8.ofNat d]⟩) (wr.alloc (.cells #[.int .u8 d] 5)).drew := hone1.out
            have ccm : wr.cell? ⟨g, m, none⟩ = some (.string ⟨((parts (l.take k)).getLastD []).toArray⟩) := by have := cc; rw [hm] at this; exact this
            have cfm : wr.frozen? ⟨g, m, none⟩ = false := by have := cf; rw [hm] at this; exact this
            rw [hm]
            have i0w : IntKind.i64.wrap ((m : Int) + 1 - 1) = m := by rw [show (m : Int) + 1 - 1 = m by omega]; exact wrap_in (by omega) (by omega)
            have i0v : IntKind.i64.wrap (m : Int) = m := wrap_in (by omega) (by omega)
            have i2 : (0 : Int) ≤ m := by omega
            have i3 : (m : Int) < m + 1 := by omega
            clear hone cc cf
            obtain ⟨q, hq⟩ : ∃ q : ByteArray, q = ⟨((parts (l.take k)).getLastD []).toArray⟩ := ⟨_, rfl⟩
            obtain ⟨r, hr⟩ : ∃ r : ByteArray, r = ⟨#[UInt8.ofNat d]⟩ := ⟨_, rfl⟩
            have hqs : q.size = ((parts (l.take k)).getLastD []).length := by rw [hq]; simp [ByteArray.size]
            have hrs : r.size = 1 := by rw [hr]; simp [ByteArray.size]
            have hsum : ¬ 9223372036854775807 < q.size + r.size := by omega
            rw [← hq] at ccm
            rw [← hr] at hone2
            have HQ := Lib.hid (show _ ∧ _ from ⟨hq, hr⟩)
            have hsum2 : ¬ (9223372036854775807 : Int) < (q.size : Int) + r.size := by omega
            clear hq hr hqs hrs
            have hfz : (wr.alloc (.cells #[.int .u8 d] 5)).drew.frozen? ⟨g, m, none⟩ = false := by
              have := (HT.out.alloc (.cells #[.int .u8 d] 5)).frozenAt m
              exact this
            have ccz : (wr.alloc (.cells #[.int .u8 d] 5)).cell? ⟨g, m, none⟩ = some (.string q) := by rw [World.cell?_alloc_past _ _ _ (lt_cell ccm)]; exact ccm
            have hfy : (wr.alloc (.cells #[.int .u8 d] 5)).frozen? ⟨g, m, none⟩ = false := hfz
            have ccy : (wr.alloc (.cells #[.int .u8 d] 5)).drew.cell? ⟨g, m, none⟩ = some (.string q) := ccz
            go_region
            rw [hm] at HW
            have HW2 : Hid (TRel W (((wr.alloc (.cells #[.int .u8 d] 5)).setCell ⟨g, m, none⟩ (.string (q ++ r))).drew) g cap (addC (parts (l.take k)) c)) := by
              have e : pstr ((parts (l.take k)).getLastD [] ++ [c]) = .string (q ++ r) := by rw [HQ.out.1, HQ.out.2, HCD.out, cat_one]; rfl
              have hw := HW.out
              rw [e] at hw
              exact ⟨hw.own, hw.gw.drew⟩
            clear ccz hfy ccy hfz ccm cfm hone2 hone1
            generalize (((wr.alloc (.cells #[.int .u8 d] 5)).setCell ⟨g, m, none⟩ (.string (q ++ r))).drew) = wn at *
            go_wp2
            go_roundw
            case rel => exact ⟨k + 1, g, cap, by omega, by go_num, by rw [HP.out, addC_len _ _ (by omega) hp0, hm], by rw [HP.out]; exact HW2.out, HAL.out⟩
            case measure => simp [intOf]; omega
          · have f1 : decide ((97 : Int) ≤ d) = false := decide_eq_false (by omega)
            have f2 : decide ((48 : Int) ≤ d) = true := decide_eq_true (by omega)
            have f3 : decide ((d : Int) ≤ 57) = true := decide_eq_true (by omega)
            clear a b b'
            go_upto_region 15 with fail
            clear f1 f2 f3
            have hone1 := Lib.hid (hone wr.drew)
            obtain ⟨m, hm⟩ : ∃ m, (parts (l.take k)).length = m + 1 := ⟨(parts (l.take k)).length - 1, by omega⟩
            have hone2 : (convert 52 9 (.slice (some ⟨wr.heap.size, 0, none⟩) 1 1)).run Try.prog (wr.alloc (.cells #[.int .u8 d] 5)).drew = .ok (.string ⟨#[UInt8.ofNat d]⟩) (wr.alloc (.cells #[.int .u8 d] 5)).drew := hone1.out
            have ccm : wr.cell? ⟨g, m, none⟩ = some (.string ⟨((parts (l.take k)).getLastD []).toArray⟩) := by have := cc; rw [hm] at this; exact this
            have cfm : wr.frozen? ⟨g, m, none⟩ = false := by have := cf; rw [hm] at this; exact this
            rw [hm]
            have i0w : IntKind.i64.wrap ((m : Int) + 1 - 1) = m := by rw [show (m : Int) + 1 - 1 = m by omega]; exact wrap_in (by omega) (by omega)
            have i0v : IntKind.i64.wrap (m : Int) = m := wrap_in (by omega) (by omega)
            have i2 : (0 : Int) ≤ m := by omega
            have i3 : (m : Int) < m + 1 := by omega
            clear hone cc cf
            obtain ⟨q, hq⟩ : ∃ q : ByteArray, q = ⟨((parts (l.take k)).getLastD []).toArray⟩ := ⟨_, rfl⟩
            obtain ⟨r, hr⟩ : ∃ r : ByteArray, r = ⟨#[UInt8.ofNat d]⟩ := ⟨_, rfl⟩
            have hqs : q.size = ((parts (l.take k)).getLastD []).length := by rw [hq]; simp [ByteArray.size]
            have hrs : r.size = 1 := by rw [hr]; simp [ByteArray.size]
            have hsum : ¬ 9223372036854775807 < q.size + r.size := by omega
            rw [← hq] at ccm
            rw [← hr] at hone2
            have HQ := Lib.hid (show _ ∧ _ from ⟨hq, hr⟩)
            have hsum2 : ¬ (9223372036854775807 : Int) < (q.size : Int) + r.size := by omega
            clear hq hr hqs hrs
            have hfz : (wr.alloc (.cells #[.int .u8 d] 5)).drew.frozen? ⟨g, m, none⟩ = false := by
              have := (HT.out.alloc (.cells #[.int .u8 d] 5)).frozenAt m
              exact this
            have ccz : (wr.alloc (.cells #[.int .u8 d] 5)).cell? ⟨g, m, none⟩ = some (.string q) := by rw [World.cell?_alloc_past _ _ _ (lt_cell ccm)]; exact ccm
            have hfy : (wr.alloc (.cells #[.int .u8 d] 5)).frozen? ⟨g, m, none⟩ = false := hfz
            have ccy : (wr.alloc (.cells #[.int .u8 d] 5)).drew.cell? ⟨g, m, none⟩ = some (.string q) := ccz
            go_region
            rw [hm] at HW
            have HW2 : Hid (TRel W (((wr.alloc (.cells #[.int .u8 d] 5)).setCell ⟨g, m, none⟩ (.string (q ++ r))).drew) g cap (addC (parts (l.take k)) c)) := by
              have e : pstr ((parts (l.take k)).getLastD [] ++ [c]) = .string (q ++ r) := by rw [HQ.out.1, HQ.out.2, HCD.out, cat_one]; rfl
              have hw := HW.out
              rw [e] at hw
              exact ⟨hw.own, hw.gw.drew⟩
            clear ccz hfy ccy hfz ccm cfm hone2 hone1
            generalize (((wr.alloc (.cells #[.int .u8 d] 5)).setCell ⟨g, m, none⟩ (.string (q ++ r))).drew) = wn at *
            go_wp2
            go_roundw
            case rel => exact ⟨k + 1, g, cap, by omega, by go_num, by rw [HP.out, addC_len _ _ (by omega) hp0, hm], by rw [HP.out]; exact HW2.out, HAL.out⟩
            case measure => simp [intOf]; omega
          · have f1 : decide ((97 : Int) ≤ d) = false := decide_eq_false (by omega)
            have f2 : decide ((48 : Int) ≤ d) = false := decide_eq_false (by omega)
            have f3 : ((d : Int) == 46) = true := by rw [a]; rfl
            clear a
            go_upto_region 15 with fail
            clear f1 f2 f3
            have hone1 := Lib.hid (hone wr.drew)
            obtain ⟨m, hm⟩ : ∃ m, (parts (l.take k)).length = m + 1 := ⟨(parts (l.take k)).length - 1, by omega⟩
            have hone2 : (convert 52 9 (.slice (some ⟨wr.heap.size, 0, none⟩) 1 1)).run Try.prog (wr.alloc (.cells #[.int .u8 d] 5)).drew = .ok (.string ⟨#[UInt8.ofNat d]⟩) (wr.alloc (.cells #[.int .u8 d] 5)).drew := hone1.out
            have ccm : wr.cell? ⟨g, m, none⟩ = some (.string ⟨((parts (l.take k)).getLastD []).toArray⟩) := by have := cc; rw [hm] at this; exact this
            have cfm : wr.frozen? ⟨g, m, none⟩ = false := by have := cf; rw [hm] at this; exact this
            rw [hm]
            have i0w : IntKind.i64.wrap ((m : Int) + 1 - 1) = m := by rw [show (m : Int) + 1 - 1 = m by omega]; exact wrap_in (by omega) (by omega)
            have i0v : IntKind.i64.wrap (m : Int) = m := wrap_in (by omega) (by omega)
            have i2 : (0 : Int) ≤ m := by omega
            have i3 : (m : Int) < m + 1 := by omega
            clear hone cc cf
            obtain ⟨q, hq⟩ : ∃ q : ByteArray, q = ⟨((parts (l.take k)).getLastD []).toArray⟩ := ⟨_, rfl⟩
            obtain ⟨r, hr⟩ : ∃ r : ByteArray, r = ⟨#[UInt8.ofNat d]⟩ := ⟨_, rfl⟩
            have hqs : q.size = ((parts (l.take k)).getLastD []).length := by rw [hq]; simp [ByteArray.size]
            have hrs : r.size = 1 := by rw [hr]; simp [ByteArray.size]
            have hsum : ¬ 9223372036854775807 < q.size + r.size := by omega
            rw [← hq] at ccm
            rw [← hr] at hone2
            have HQ := Lib.hid (show _ ∧ _ from ⟨hq, hr⟩)
            have hsum2 : ¬ (9223372036854775807 : Int) < (q.size : Int) + r.size := by omega
            clear hq hr hqs hrs
            have hfz : (wr.alloc (.cells #[.int .u8 d] 5)).drew.frozen? ⟨g, m, none⟩ = false := by
              have := (HT.out.alloc (.cells #[.int .u8 d] 5)).frozenAt m
              exact this
            have ccz : (wr.alloc (.cells #[.int .u8 d] 5)).cell? ⟨g, m, none⟩ = some (.string q) := by rw [World.cell?_alloc_past _ _ _ (lt_cell ccm)]; exact ccm
            have hfy : (wr.alloc (.cells #[.int .u8 d] 5)).frozen? ⟨g, m, none⟩ = false := hfz
            have ccy : (wr.alloc (.cells #[.int .u8 d] 5)).drew.cell? ⟨g, m, none⟩ = some (.string q) := ccz
            go_region
            rw [hm] at HW
            have HW2 : Hid (TRel W (((wr.alloc (.cells #[.int .u8 d] 5)).setCell ⟨g, m, none⟩ (.string (q ++ r))).drew) g cap (addC (parts (l.take k)) c)) := by
              have e : pstr ((parts (l.take k)).getLastD [] ++ [c]) = .string (q ++ r) := by rw [HQ.out.1, HQ.out.2, HCD.out, cat_one]; rfl
              have hw := HW.out
              rw [e] at hw
              exact ⟨hw.own, hw.gw.drew⟩
            clear ccz hfy ccy hfz ccm cfm hone2 hone1
            generalize (((wr.alloc (.cells #[.int .u8 d] 5)).setCell ⟨g, m, none⟩ (.string (q ++ r))).drew) = wn at *
            go_wp2
            go_roundw
            case rel => exact ⟨k + 1, g, cap, by omega, by go_num, by rw [HP.out, addC_len _ _ (by omega) hp0, hm], by rw [HP.out]; exact HW2.out, HAL.out⟩
            case measure => simp [intOf]; omega
          · have f1 : decide ((97 : Int) ≤ d) = false := decide_eq_false (by omega)
            have f2 : decide ((48 : Int) ≤ d) = true := decide_eq_true (by omega)
            have f3 : decide ((d : Int) ≤ 57) = false := decide_eq_false (by omega)
            have f4 : ((d : Int) == 46) = false := by rw [a]; rfl
            have f5 : ((d : Int) == 95) = true := by rw [a]; rfl
            clear a
            go_upto_region 15 with fail
            clear f1 f2 f3 f4 f5
            have hone1 := Lib.hid (hone wr.drew)
            obtain ⟨m, hm⟩ : ∃ m, (parts (l.take k)).length = m + 1 := ⟨(parts (l.take k)).length - 1, by omega⟩
            have hone2 : (convert 52 9 (.slice (some ⟨wr.heap.size, 0, none⟩) 1 1)).run Try.prog (wr.alloc (.cells #[.int .u8 d] 5)).drew = .ok (.string ⟨#[UInt8.ofNat d]⟩) (wr.alloc (.cells #[.int .u8 d] 5)).drew := hone1.out
            have ccm : wr.cell? ⟨g, m, none⟩ = some (.string ⟨((parts (l.take k)).getLastD []).toArray⟩) := by have := cc; rw [hm] at this; exact this
            have cfm : wr.frozen? ⟨g, m, none⟩ = false := by have := cf; rw [hm] at this; exact this
            rw [hm]
            have i0w : IntKind.i64.wrap ((m : Int) + 1 - 1) = m := by rw [show (m : Int) + 1 - 1 = m by omega]; exact wrap_in (by omega) (by omega)
            have i0v : IntKind.i64.wrap (m : Int) = m := wrap_in (by omega) (by omega)
            have i2 : (0 : Int) ≤ m := by omega
            have i3 : (m : Int) < m + 1 := by omega
            clear hone cc cf
            obtain ⟨q, hq⟩ : ∃ q : ByteArray, q = ⟨((parts (l.take k)).getLastD []).toArray⟩ := ⟨_, rfl⟩
            obtain ⟨r, hr⟩ : ∃ r : ByteArray, r = ⟨#[UInt8.ofNat d]⟩ := ⟨_, rfl⟩
            have hqs : q.size = ((parts (l.take k)).getLastD []).length := by rw [hq]; simp [ByteArray.size]
            have hrs : r.size = 1 := by rw [hr]; simp [ByteArray.size]
            have hsum : ¬ 9223372036854775807 < q.size + r.size := by omega
            rw [← hq] at ccm
            rw [← hr] at hone2
            have HQ := Lib.hid (show _ ∧ _ from ⟨hq, hr⟩)
            have hsum2 : ¬ (9223372036854775807 : Int) < (q.size : Int) + r.size := by omega
            clear hq hr hqs hrs
            have hfz : (wr.alloc (.cells #[.int .u8 d] 5)).drew.frozen? ⟨g, m, none⟩ = false := by
              have := (HT.out.alloc (.cells #[.int .u8 d] 5)).frozenAt m
              exact this
            have ccz : (wr.alloc (.cells #[.int .u8 d] 5)).cell? ⟨g, m, none⟩ = some (.string q) := by rw [World.cell?_alloc_past _ _ _ (lt_cell ccm)]; exact ccm
            have hfy : (wr.alloc (.cells #[.int .u8 d] 5)).frozen? ⟨g, m, none⟩ = false := hfz
            have ccy : (wr.alloc (.cells #[.int .u8 d] 5)).drew.cell? ⟨g, m, none⟩ = some (.string q) := ccz
            go_region
            rw [hm] at HW
            have HW2 : Hid (TRel W (((wr.alloc (.cells #[.int .u8 d] 5)).setCell ⟨g, m, none⟩ (.string (q ++ r))).drew) g cap (addC (parts (l.take k)) c)) := by
              have e : pstr ((parts (l.take k)).getLastD [] ++ [c]) = .string (q ++ r) := by rw [HQ.out.1, HQ.out.2, HCD.out, cat_one]; rfl
              have hw := HW.out
              rw [e] at hw
              exact ⟨hw.own, hw.gw.drew⟩
            clear ccz hfy ccy hfz ccm cfm hone2 hone1
            generalize (((wr.alloc (.cells #[.int .u8 d] 5)).setCell ⟨g, m, none⟩ (.string (q ++ r))).drew) = wn at *
            go_wp2
            go_roundw
            case rel => exact ⟨k + 1, g, cap, by omega, by go_num, by rw [HP.out, addC_len _ _ (by omega) hp0, hm], by rw [HP.out]; exact HW2.out, HAL.out⟩
            case measure => simp [intOf]; omega
        · have h3 : 122 < d ∨ (d < 97 ∧ 57 < d ∧ d ≠ 95) ∨ (d < 48 ∧ d ≠ 46) := by
            rw [HCH.out] at ok
            simp only [Bool.or_eq_true, Bool.and_eq_true, decide_eq_true_eq] at ok
            omega
          have hno := Lib.hid (nameB_no HC.out (by omega) (by simpa using ok))
          clear ok hcd hone cc cf
          rcases h3 with a | ⟨a, b, b'⟩ | ⟨a, b⟩
          · have f1 : decide ((97 : Int) ≤ d) = true := decide_eq_true (by omega)
            have f2 : decide ((d : Int) ≤ 122) = false := decide_eq_false (by omega)
            have f3 : decide ((48 : Int) ≤ d) = true := decide_eq_true (by omega)
            have f4 : decide ((d : Int) ≤ 57) = false := decide_eq_false (by omega)
            have f5 : ((d : Int) == 46) = false := by simp; omega
            have f6 : ((d : Int) == 95) = false := by simp; omega
            clear a
            go_wp2
            go_ret
            exact ⟨by rw [hno.out]; rfl, HG.out⟩
          · have f1 : decide ((97 : Int) ≤ d) = false := decide_eq_false (by omega)
            have f3 : decide ((48 : Int) ≤ d) = true := decide_eq_true (by omega)
            have f4 : decide ((d : Int) ≤ 57) = false := decide_eq_false (by omega)
            have f5 : ((d : Int) == 46) = false := by simp; omega
            have f6 : ((d : Int) == 95) = false := by simp; omega
            clear a b b'
            go_wp2
            go_ret
            exact ⟨by rw [hno.out]; rfl, HG.out⟩
          · have f1 : decide ((97 : Int) ≤ d) = false := decide_eq_false (by omega)
            have f3 : decide ((48 : Int) ≤ d) = false := decide_eq_false (by omega)
            have f5 : ((d : Int) == 46) = false := by simp; omega
            have f6 : ((d : Int) == 95) = false := by simp; omega
            clear a b
            go_wp2
            go_ret
            exact ⟨by rw [hno.out]; rfl, HG.out⟩
    · obtain rfl : k = l.length := by omega
      rw [List.take_length] at *
      have hp0 := parts_pos l
      have hpl := (parts_len l l.length (Nat.le_refl _)).1
      rw [List.take_length] at hpl
      have HALL := Lib.hid HA.out
      have hpn : (parts l).length ≤ 9 := by omega
      have hlt' : ¬ l.length < s.size := by rw [HSZ.out]; omega
      clear HA
      go_wp2
      go_loopw [6] (fun i w' => ∃ j : Nat, j ≤ (parts l).length ∧ i = .int .i64 j ∧ Hid (((parts l).take j).all partOk = true) ∧ w' = wr) (fun i _ => (parts l).length - (intOf i).toNat)
      case atStart => exact ⟨0, by omega, rfl, rfl, rfl⟩
      case round =>
        obtain ⟨j, hj, rfl, HJ, rfl⟩ := hrel
        by_cases hlt : j < (parts l).length
        · obtain ⟨x, hx⟩ : ∃ x, (parts l)[j]? = some x := ⟨_, List.getElem?_eq_getElem hlt⟩
          have cx := T.out.cell hx
          have HX := Lib.hid hx
          clear hx
          obtain ⟨q, hq⟩ : ∃ q : ByteArray, q = ⟨x.toArray⟩ := ⟨_, rfl⟩
          rw [← hq] at cx
          have HQ := Lib.hid hq
          clear hq
          have hqx : q.toList = x := by rw [HQ.out]; exact ByteArray.toList_mk x
          have HG := Lib.hid T.out.gw
          by_cases ok : partOk x = true
          · have hj1 : ((parts l).take (j + 1)).all partOk = true := by
              obtain ⟨hi, he⟩ := List.getElem?_eq_some_iff.1 HX.out
              rw [List.take_succ_eq_append_getElem hi, he, List.all_append, HJ.out]
              simp [ok]
            have HJ1 := Lib.hid hj1
            have hp := ok
            unfold partOk at hp
            simp only [Bool.and_eq_true, bne_iff_ne, ne_eq] at hp
            obtain ⟨⟨p1, p2⟩, p3⟩ := hp
            have n1 : ¬ q.toList = [] := by rw [hqx]; exact p1
            have n1' : q.toList.isEmpty = false := by rw [hqx]; cases x with | nil => exact absurd rfl p1 | cons => rfl
            have n2 : ¬ q.toList = [46] := by rw [hqx]; exact p2
            have n2' : (q.toList == [46]) = false := by rw [hqx]; exact beq_false_of_ne p2
            have n3 : ¬ q.toList = [46, 46] := by rw [hqx]; exact p3
            have n3' : (q.toList == [46, 46]) = false := by rw [hqx]; exact beq_false_of_ne p3
            clear hqx p1 p2 p3 hj1 ok
            go_wp2
            go_roundw
            case rel => exact ⟨j + 1, by omega, by go_num, HJ1.out, trivial⟩
            case measure => simp [intOf]; omega
          · have hno : nameB l = false := by
              have : (parts l).all partOk = false := by
                rw [List.all_eq_false]
                exact ⟨x, List.mem_of_getElem? HX.out, ok⟩
              unfold nameB
              rw [this]
              simp
            have HNO := Lib.hid hno
            clear hno
            by_cases e1 : x = []
            · subst e1
              clear ok
              go_wp2
              all_goals
                go_ret
                exact ⟨by rw [HNO.out]; rfl, HG.out⟩
            by_cases e2 : x = [46]
            · subst e2
              clear ok e1
              go_wp2
              all_goals
                go_ret
                exact ⟨by rw [HNO.out]; rfl, HG.out⟩
            by_cases e3 : x = [46, 46]
            · subst e3
              clear ok e1 e2
              go_wp2
              all_goals
                go_ret
                exact ⟨by rw [HNO.out]; rfl, HG.out⟩
            · exfalso
              apply ok
              simp [partOk, e1, e2, e3]
        · obtain rfl : j = (parts l).length := by omega
          have HG := Lib.hid T.out.gw
          have hb : nameB l = decide ((parts l).length ≤ 2) := by
            have := HJ.out
            rw [List.take_length] at this
            unfold nameB
            rw [this, HALL.out, decide_eq_true hk1, decide_eq_true hk8]
            simp
          have HB := Lib.hid hb
          clear hb
          go_wp2
          go_ret
          have e : decide (((parts l).length : Int) ≤ 2) = decide ((parts l).length ≤ 2) := by
            by_cases h : (parts l).length ≤ 2
            · rw [decide_eq_true h, decide_eq_true (by omega)]
            · rw [decide_eq_false h, decide_eq_false (by omega)]
          exact ⟨by rw [HB.out, ← e]; rfl, HG.out⟩
end Go.Proofs.Ytckoapfmfpmdgaa
