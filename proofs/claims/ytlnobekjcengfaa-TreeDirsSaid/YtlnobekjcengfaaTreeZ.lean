/-
  The law TreeKnown's walk, over what the program's tree is to answer.
-/
import Derived.Test.YtlnobekjcengfaaTreeI
namespace Go.Proofs.Ytlnobekjcengfaa
open Go.ChangeShapes Go.WideShapes Go.ChangeAt Go.RowKit Go.Joins
set_option linter.unusedVariables false
set_option linter.unusedSimpArgs false

def kn0 : St := ⟨[⟨[97], false, 0⟩, ⟨[100], true, 1⟩, ⟨[100, 47, 98], false, 2⟩], 3⟩
def kn1 : St := ⟨[⟨[97], false, 0⟩, ⟨[100], true, 1⟩, ⟨[100, 47, 98], false, 2⟩, ⟨[101], true, 3⟩], 4⟩
def kn2 : St := ⟨[⟨[100], true, 1⟩, ⟨[97], false, 2⟩, ⟨[101], true, 3⟩], 4⟩
def kn3 : St := ⟨[⟨[97], false, 2⟩, ⟨[101], true, 3⟩], 4⟩
def kn4 : St := ⟨[⟨[97], false, 2⟩, ⟨[101], true, 3⟩, ⟨[100], false, 4⟩], 5⟩
def ek : List Ent := [([97], false), ([100], true), ([100, 47, 98], false)]
theorem newk : newT ek = some kn0 := by
  have : (newT ek).map (fun s => (s.l, s.nx)) = some (kn0.l, kn0.nx) := by decide +kernel
  cases h : newT ek with
  | none => rw [h] at this; cases this
  | some s => rw [h] at this; simp only [Option.map_some, Option.some.injEq, Prod.mk.injEq] at this; obtain ⟨l, n⟩ := s; obtain ⟨rfl, rfl⟩ := this; rfl
theorem kok0 : Ok kn0.l := (new_ok1 newk).1
theorem kok1 : Ok kn1.l := by have := make_ok (s := kn0) kok0 [101] true; rw [show (makeT kn0 [101] true).2 = kn1 by decide +kernel] at this; exact this
theorem kok2 : Ok kn2.l := by have := move_ok (s := kn1) kok1 [100, 47, 98] [97]; rw [show (moveT kn1 [100, 47, 98] [97]).2 = kn2 by decide +kernel] at this; exact this
theorem kok3 : Ok kn3.l := by have := drop_ok (s := kn2) kok2 [100] true; rw [show (dropT kn2 [100] true).2 = kn3 by decide +kernel] at this; exact this
theorem kok4 : Ok kn4.l := by have := make_ok (s := kn3) kok3 [100] false; rw [show (makeT kn3 [100] false).2 = kn4 by decide +kernel] at this; exact this
section
variable {T : TP} (C : TreeC T) {W w : World} {v : Value}
include C
theorem kc0 (M : Mn T W w v kn0) : Calls Try.prog 16 #[v, .string ⟨#[97]⟩, .bool true] w fun e w' => e = .returned (.tuple #[.int .i64 (-1), .int .u16 65297]) ∧ Mn T W w' v kn0 := by
  have := m_make C M kok0 (by decide) ⟨#[97]⟩ (show ByteArray.size ⟨#[97]⟩ ≤ 140737488351232 by decide) true (by decide) (by decide)
  rw [show makeT kn0 (⟨#[97]⟩ : ByteArray).data.toList true = ((-1, 65297), kn0) by decide +kernel] at this
  exact this
theorem kc1 (M : Mn T W w v kn0) : Calls Try.prog 16 #[v, .string ⟨#[97, 47, 120]⟩, .bool false] w fun e w' => e = .returned (.tuple #[.int .i64 (-1), .int .u16 65300]) ∧ Mn T W w' v kn0 := by
  have := m_make C M kok0 (by decide) ⟨#[97, 47, 120]⟩ (show ByteArray.size ⟨#[97, 47, 120]⟩ ≤ 140737488351232 by decide) false (by decide) (by decide)
  rw [show makeT kn0 (⟨#[97, 47, 120]⟩ : ByteArray).data.toList false = ((-1, 65300), kn0) by decide +kernel] at this
  exact this
theorem kc2 (M : Mn T W w v kn0) : Calls Try.prog 16 #[v, .string ⟨#[120, 47, 121]⟩, .bool false] w fun e w' => e = .returned (.tuple #[.int .i64 (-1), .int .u16 65282]) ∧ Mn T W w' v kn0 := by
  have := m_make C M kok0 (by decide) ⟨#[120, 47, 121]⟩ (show ByteArray.size ⟨#[120, 47, 121]⟩ ≤ 140737488351232 by decide) false (by decide) (by decide)
  rw [show makeT kn0 (⟨#[120, 47, 121]⟩ : ByteArray).data.toList false = ((-1, 65282), kn0) by decide +kernel] at this
  exact this
theorem kc3 (M : Mn T W w v kn0) : Calls Try.prog 16 #[v, .string ⟨#[100, 47, 101]⟩, .bool true] w fun e w' => e = .returned (.tuple #[.int .i64 (-1), .int .u16 65302]) ∧ Mn T W w' v kn0 := by
  have := m_make C M kok0 (by decide) ⟨#[100, 47, 101]⟩ (show ByteArray.size ⟨#[100, 47, 101]⟩ ≤ 140737488351232 by decide) true (by decide) (by decide)
  rw [show makeT kn0 (⟨#[100, 47, 101]⟩ : ByteArray).data.toList true = ((-1, 65302), kn0) by decide +kernel] at this
  exact this
theorem kc4 (M : Mn T W w v kn0) : Calls Try.prog 16 #[v, .string ⟨#[101]⟩, .bool true] w fun e w' => e = .returned (.tuple #[.int .i64 (3), .int .u16 0]) ∧ Mn T W w' v kn1 := by
  have := m_make C M kok0 (by decide) ⟨#[101]⟩ (show ByteArray.size ⟨#[101]⟩ ≤ 140737488351232 by decide) true (by decide) (by decide)
  rw [show makeT kn0 (⟨#[101]⟩ : ByteArray).data.toList true = ((3, 0), kn1) by decide +kernel] at this
  exact this
theorem kc5 (M : Mn T W w v kn1) : Calls Try.prog 17 #[v, .string ⟨#[100]⟩, .bool true] w fun e w' => e = .returned (.int .u16 65319) ∧ Mn T W w' v kn1 := by
  have := m_drop C M kok1 (by decide) ⟨#[100]⟩ (show ByteArray.size ⟨#[100]⟩ ≤ 140737488351232 by decide) true
  rw [show dropT kn1 (⟨#[100]⟩ : ByteArray).data.toList true = (65319, kn1) by decide +kernel] at this
  exact this
theorem kc6 (M : Mn T W w v kn1) : Calls Try.prog 17 #[v, .string ⟨#[97]⟩, .bool true] w fun e w' => e = .returned (.int .u16 65300) ∧ Mn T W w' v kn1 := by
  have := m_drop C M kok1 (by decide) ⟨#[97]⟩ (show ByteArray.size ⟨#[97]⟩ ≤ 140737488351232 by decide) true
  rw [show dropT kn1 (⟨#[97]⟩ : ByteArray).data.toList true = (65300, kn1) by decide +kernel] at this
  exact this
theorem kc7 (M : Mn T W w v kn1) : Calls Try.prog 17 #[v, .string ⟨#[101]⟩, .bool false] w fun e w' => e = .returned (.int .u16 65301) ∧ Mn T W w' v kn1 := by
  have := m_drop C M kok1 (by decide) ⟨#[101]⟩ (show ByteArray.size ⟨#[101]⟩ ≤ 140737488351232 by decide) false
  rw [show dropT kn1 (⟨#[101]⟩ : ByteArray).data.toList false = (65301, kn1) by decide +kernel] at this
  exact this
theorem kc8 (M : Mn T W w v kn1) : Calls Try.prog 18 #[v, .string ⟨#[100, 47, 98]⟩, .string ⟨#[97]⟩] w fun e w' => e = .returned (.tuple #[.int .i64 (0), .int .u16 0]) ∧ Mn T W w' v kn2 := by
  have := m_move C M kok1 (by decide) ⟨#[100, 47, 98]⟩ ⟨#[97]⟩ (show ByteArray.size ⟨#[100, 47, 98]⟩ ≤ 140737488351232 by decide) (show ByteArray.size ⟨#[97]⟩ ≤ 140737488351232 by decide)
  rw [show moveT kn1 (⟨#[100, 47, 98]⟩ : ByteArray).data.toList (⟨#[97]⟩ : ByteArray).data.toList = ((0, 0), kn2) by decide +kernel] at this
  exact this
theorem kc9 (M : Mn T W w v kn2) : Calls Try.prog 18 #[v, .string ⟨#[100]⟩, .string ⟨#[122]⟩] w fun e w' => e = .returned (.tuple #[.int .i64 (-1), .int .u16 65301]) ∧ Mn T W w' v kn2 := by
  have := m_move C M kok2 (by decide) ⟨#[100]⟩ ⟨#[122]⟩ (show ByteArray.size ⟨#[100]⟩ ≤ 140737488351232 by decide) (show ByteArray.size ⟨#[122]⟩ ≤ 140737488351232 by decide)
  rw [show moveT kn2 (⟨#[100]⟩ : ByteArray).data.toList (⟨#[122]⟩ : ByteArray).data.toList = ((-1, 65301), kn2) by decide +kernel] at this
  exact this
theorem kc10 (M : Mn T W w v kn2) : Calls Try.prog 18 #[v, .string ⟨#[97]⟩, .string ⟨#[101]⟩] w fun e w' => e = .returned (.tuple #[.int .i64 (-1), .int .u16 65301]) ∧ Mn T W w' v kn2 := by
  have := m_move C M kok2 (by decide) ⟨#[97]⟩ ⟨#[101]⟩ (show ByteArray.size ⟨#[97]⟩ ≤ 140737488351232 by decide) (show ByteArray.size ⟨#[101]⟩ ≤ 140737488351232 by decide)
  rw [show moveT kn2 (⟨#[97]⟩ : ByteArray).data.toList (⟨#[101]⟩ : ByteArray).data.toList = ((-1, 65301), kn2) by decide +kernel] at this
  exact this
theorem kc11 (M : Mn T W w v kn2) : Calls Try.prog 18 #[v, .string ⟨#[97]⟩, .string ⟨#[97]⟩] w fun e w' => e = .returned (.tuple #[.int .i64 (-1), .int .u16 0]) ∧ Mn T W w' v kn2 := by
  have := m_move C M kok2 (by decide) ⟨#[97]⟩ ⟨#[97]⟩ (show ByteArray.size ⟨#[97]⟩ ≤ 140737488351232 by decide) (show ByteArray.size ⟨#[97]⟩ ≤ 140737488351232 by decide)
  rw [show moveT kn2 (⟨#[97]⟩ : ByteArray).data.toList (⟨#[97]⟩ : ByteArray).data.toList = ((-1, 0), kn2) by decide +kernel] at this
  exact this
theorem kc12 (M : Mn T W w v kn2) : Calls Try.prog 19 #[v, .string ⟨#[100]⟩] w fun e w' => e = .returned (.int .u16 0) ∧ Mn T W w' v kn2 := by
  have := m_many C M kok2 (by decide) ⟨#[100]⟩ (show ByteArray.size ⟨#[100]⟩ ≤ 140737488351232 by decide)
  rw [show manyT kn2.l (⟨#[100]⟩ : ByteArray).data.toList = 0 by decide +kernel] at this
  exact this
theorem kc13 (M : Mn T W w v kn2) : Calls Try.prog 17 #[v, .string ⟨#[100]⟩, .bool true] w fun e w' => e = .returned (.int .u16 0) ∧ Mn T W w' v kn3 := by
  have := m_drop C M kok2 (by decide) ⟨#[100]⟩ (show ByteArray.size ⟨#[100]⟩ ≤ 140737488351232 by decide) true
  rw [show dropT kn2 (⟨#[100]⟩ : ByteArray).data.toList true = (0, kn3) by decide +kernel] at this
  exact this
theorem kc14 (M : Mn T W w v kn3) : Calls Try.prog 16 #[v, .string ⟨#[100]⟩, .bool false] w fun e w' => e = .returned (.tuple #[.int .i64 (4), .int .u16 0]) ∧ Mn T W w' v kn4 := by
  have := m_make C M kok3 (by decide) ⟨#[100]⟩ (show ByteArray.size ⟨#[100]⟩ ≤ 140737488351232 by decide) false (by decide) (by decide)
  rw [show makeT kn3 (⟨#[100]⟩ : ByteArray).data.toList false = ((4, 0), kn4) by decide +kernel] at this
  exact this
theorem kc15 (M : Mn T W w v kn4) : Calls Try.prog 19 #[v, .string ⟨#[97]⟩] w fun e w' => e = .returned (.int .u16 65300) ∧ Mn T W w' v kn4 := by
  have := m_many C M kok4 (by decide) ⟨#[97]⟩ (show ByteArray.size ⟨#[97]⟩ ≤ 140737488351232 by decide)
  rw [show manyT kn4.l (⟨#[97]⟩ : ByteArray).data.toList = 65300 by decide +kernel] at this
  exact this
theorem kcl (M : Mn T W w v kn4) : Calls Try.prog 13 #[v] w fun e w' => e = .returned (.int .i64 3) ∧ Mn T W w' v kn4 := m_len C M kok4 (by decide)
end
def eb0 : List Ent := [([100, 47, 98], false)]
def ob0 : Array Value := #[.string ⟨#[100, 47, 98]⟩, .bool false, .int .i64 0]
theorem nb0 : newT eb0 = none := by
  have : (newT eb0).isNone = true := by decide +kernel
  cases h : newT eb0 with
  | none => rfl
  | some s => rw [h] at this; cases this
def eb1 : List Ent := [([97], false), ([97, 47, 98], false)]
def ob1 : Array Value := #[.string ⟨#[97]⟩, .bool false, .int .i64 0, .string ⟨#[97, 47, 98]⟩, .bool false, .int .i64 0]
theorem nb1 : newT eb1 = none := by
  have : (newT eb1).isNone = true := by decide +kernel
  cases h : newT eb1 with
  | none => rfl
  | some s => rw [h] at this; cases this
def eb2 : List Ent := [([97], false), ([97], true)]
def ob2 : Array Value := #[.string ⟨#[97]⟩, .bool false, .int .i64 0, .string ⟨#[97]⟩, .bool true, .int .i64 0]
theorem nb2 : newT eb2 = none := by
  have : (newT eb2).isNone = true := by decide +kernel
  cases h : newT eb2 with
  | none => rfl
  | some s => rw [h] at this; cases this
def eb3 : List Ent := [([100], true), ([100, 47, 101], true)]
def ob3 : Array Value := #[.string ⟨#[100]⟩, .bool true, .int .i64 0, .string ⟨#[100, 47, 101]⟩, .bool true, .int .i64 0]
theorem nb3 : newT eb3 = none := by
  have : (newT eb3).isNone = true := by decide +kernel
  cases h : newT eb3 with
  | none => rfl
  | some s => rw [h] at this; cases this
def eb4 : List Ent := [([46, 46], false)]
def ob4 : Array Value := #[.string ⟨#[46, 46]⟩, .bool false, .int .i64 0]
theorem nb4 : newT eb4 = none := by
  have : (newT eb4).isNone = true := by decide +kernel
  cases h : newT eb4 with
  | none => rfl
  | some s => rw [h] at this; cases this
def eb5 : List Ent := [([], false), ([], false), ([], false), ([], false), ([], false), ([], false), ([], false), ([], false), ([], false)]
def ob5 : Array Value := #[.string ⟨#[]⟩, .bool false, .int .i64 0, .string ⟨#[]⟩, .bool false, .int .i64 0, .string ⟨#[]⟩, .bool false, .int .i64 0, .string ⟨#[]⟩, .bool false, .int .i64 0, .string ⟨#[]⟩, .bool false, .int .i64 0, .string ⟨#[]⟩, .bool false, .int .i64 0, .string ⟨#[]⟩, .bool false, .int .i64 0, .string ⟨#[]⟩, .bool false, .int .i64 0, .string ⟨#[]⟩, .bool false, .int .i64 0]
theorem nb5 : newT eb5 = none := by
  have : (newT eb5).isNone = true := by decide +kernel
  cases h : newT eb5 with
  | none => rfl
  | some s => rw [h] at this; cases this
theorem ent_sm {es : List Ent} (h : es.all (fun e => decide (e.1.length ≤ 8)) = true) : ∀ e ∈ es, e.1.length ≤ 140737488351232 := fun e he => by
  have := of_decide_eq_true (List.all_eq_true.1 h e he)
  omega
theorem ent_row {w : World} {g : Nat} {es : List Ent} {cs : Array Value} (hh : Has w g 44 cs) (hc : cs.toList = eCs es) : EntAt w (.slice (some ⟨g, 0, none⟩) es.length es.length) es := by
  refine ⟨_, es.length, rfl, fun k e he => ⟨g, 0, rfl, ?_⟩⟩
  have a0 := flat_at eC_len es k 0 e he (by decide)
  have a1 := flat_at eC_len es k 1 e he (by decide)
  have t : ∀ j v, (es.flatMap eC)[j]? = some v → w.cell? ⟨g, j, none⟩ = some v := fun j v hj => by
    have hj' : (eCs es)[j]? = some v := hj
    rw [← hc, Array.getElem?_toList] at hj'
    exact (hh.cell j).trans hj'
  rw [Nat.zero_add]
  exact ⟨t _ _ a0, t _ _ a1, 0, t _ _ (flat_at eC_len es k 2 e he (by decide))⟩
theorem bad_any {T : TP} (C : TreeC T) {w : World} {g n : Nat} {es : List Ent} {cs : Array Value} (hh : Has w g 44 cs) (hc : cs.toList = eCs es) (hn : newT es = none) (hs : es.all (fun e => decide (e.1.length ≤ 8)) = true) (hl : es.length = n) (h9 : n ≤ 9) :
    Calls Try.prog 10 #[.slice (some ⟨g, 0, none⟩) n n] w fun e w' => e = .returned (.tuple #[.pointer none, .int .i64 11]) ∧ Gw w w' := by
  have := C.new (ent_row hh hc) (ent_sm hs) (by omega)
  rw [hl] at this
  refine this.mono fun e w' k => ?_
  unfold NewP at k
  rw [hn] at k
  exact k
def obb (n : Nat) : Array Value := #[.slice (some ⟨n, 0, none⟩) 1 1, .slice (some ⟨n + 1, 0, none⟩) 2 2, .slice (some ⟨n + 1 + 1, 0, none⟩) 2 2, .slice (some ⟨n + 1 + 1 + 1, 0, none⟩) 2 2, .slice (some ⟨n + 1 + 1 + 1 + 1, 0, none⟩) 1 1, .slice (some ⟨n + 1 + 1 + 1 + 1 + 1, 0, none⟩) 9 9]
theorem mk9 (w : World) : (Instr.makeSlice 22 (.int .i64 9) (.int .i64 9)).run Try.prog w = .ok (.slice (some ⟨w.heap.size, 0, none⟩) 9 9) (w.alloc (.cells ob5 44)) := by kernel_rfl
theorem six (w1 : World) : ∃ W7, W7 = ((((((w1.alloc (.cells ob0 44)).alloc (.cells ob1 44)).alloc (.cells ob2 44)).alloc (.cells ob3 44)).alloc (.cells ob4 44)).alloc (.cells ob5 44)).alloc (.cells (obb w1.heap.size) 22) ∧ Gw w1 W7 ∧ Has W7 (w1.heap.size + 1 + 1 + 1 + 1 + 1 + 1) 22 (obb w1.heap.size) ∧ Has W7 (w1.heap.size) 44 ob0 ∧ Has W7 (w1.heap.size + 1) 44 ob1 ∧ Has W7 (w1.heap.size + 1 + 1) 44 ob2 ∧ Has W7 (w1.heap.size + 1 + 1 + 1) 44 ob3 ∧ Has W7 (w1.heap.size + 1 + 1 + 1 + 1) 44 ob4 ∧ Has W7 (w1.heap.size + 1 + 1 + 1 + 1 + 1) 44 ob5 := by
  refine ⟨_, rfl, ?_, ?_, ?_, ?_, ?_, ?_, ?_, ?_⟩
  · exact (Gw.alloc _ _).trans ((Gw.alloc _ _).trans ((Gw.alloc _ _).trans ((Gw.alloc _ _).trans ((Gw.alloc _ _).trans ((Gw.alloc _ _).trans (Gw.alloc _ _))))))
  · have h := Has.new ((((((w1.alloc (.cells ob0 44)).alloc (.cells ob1 44)).alloc (.cells ob2 44)).alloc (.cells ob3 44)).alloc (.cells ob4 44)).alloc (.cells ob5 44)) 22 (obb w1.heap.size)
    simp only [size_alloc] at h
    exact h.on (Gw.refl _)
  · have h := Has.new w1 44 ob0
    exact h.on (((Gw.alloc _ _).trans ((Gw.alloc _ _).trans ((Gw.alloc _ _).trans ((Gw.alloc _ _).trans ((Gw.alloc _ _).trans (Gw.alloc _ _)))))))
  · have h := Has.new (w1.alloc (.cells ob0 44)) 44 ob1
    simp only [size_alloc] at h
    exact h.on (((Gw.alloc _ _).trans ((Gw.alloc _ _).trans ((Gw.alloc _ _).trans ((Gw.alloc _ _).trans (Gw.alloc _ _))))))
  · have h := Has.new ((w1.alloc (.cells ob0 44)).alloc (.cells ob1 44)) 44 ob2
    simp only [size_alloc] at h
    exact h.on (((Gw.alloc _ _).trans ((Gw.alloc _ _).trans ((Gw.alloc _ _).trans (Gw.alloc _ _)))))
  · have h := Has.new (((w1.alloc (.cells ob0 44)).alloc (.cells ob1 44)).alloc (.cells ob2 44)) 44 ob3
    simp only [size_alloc] at h
    exact h.on (((Gw.alloc _ _).trans ((Gw.alloc _ _).trans (Gw.alloc _ _))))
  · have h := Has.new ((((w1.alloc (.cells ob0 44)).alloc (.cells ob1 44)).alloc (.cells ob2 44)).alloc (.cells ob3 44)) 44 ob4
    simp only [size_alloc] at h
    exact h.on (((Gw.alloc _ _).trans (Gw.alloc _ _)))
  · have h := Has.new (((((w1.alloc (.cells ob0 44)).alloc (.cells ob1 44)).alloc (.cells ob2 44)).alloc (.cells ob3 44)).alloc (.cells ob4 44)) 44 ob5
    simp only [size_alloc] at h
    exact h.on ((Gw.alloc _ _))
set_option maxRecDepth 100000 in
set_option maxHeartbeats 8000000 in
theorem known_walk {T : TP} (C : TreeC T) (aw : AwT) (W : World) : Calls Try.prog 4 #[] W fun e W' => e = .returned (.bool true) ∧ Gw W W' := by
  have hn : ∀ b w, (Op.unary .not (.bool b)).run Try.prog w = .ok (.bool (!b)) w := fun _ _ => rfl
  have AW := aw W
  go_enter Try.func4, Try.ntmps4
  go_upto_region 3 with (go_at_call 8; with_reducible refine AW.mono ?_; rintro e w1 ⟨rfl, G1⟩)
  have hmk := mk9
  obtain ⟨W7, hW7, H7⟩ := six w1
  unfold ob0 ob1 ob2 ob3 ob4 ob5 obb at hW7
  unfold ob5 at hmk
  go_upto_region 5 with fail
  rw [← hW7]
  clear hW7 hmk
  obtain ⟨G7, h7, h0, h1, h2, h3, h4, h5⟩ := H7
  have B : ∀ q : Nat, q < 6 → ∃ u, (obb w1.heap.size)[q]? = some u ∧ ∀ w, Gw W7 w → Calls Try.prog 10 #[u] w fun e w' => e = .returned (.tuple #[.pointer none, .int .i64 11]) ∧ Gw w w' := fun q hq => by
    match q, hq with
    | 0, _ => exact ⟨_, rfl, fun w G => bad_any C (h0.on G) (by rfl) nb0 (by decide +kernel) rfl (by decide)⟩
    | 1, _ => exact ⟨_, rfl, fun w G => bad_any C (h1.on G) (by rfl) nb1 (by decide +kernel) rfl (by decide)⟩
    | 2, _ => exact ⟨_, rfl, fun w G => bad_any C (h2.on G) (by rfl) nb2 (by decide +kernel) rfl (by decide)⟩
    | 3, _ => exact ⟨_, rfl, fun w G => bad_any C (h3.on G) (by rfl) nb3 (by decide +kernel) rfl (by decide)⟩
    | 4, _ => exact ⟨_, rfl, fun w G => bad_any C (h4.on G) (by rfl) nb4 (by decide +kernel) rfl (by decide)⟩
    | 5, _ => exact ⟨_, rfl, fun w G => bad_any C (h5.on G) (by rfl) nb5 (by decide +kernel) rfl (by decide)⟩
  clear h0 h1 h2 h3 h4 h5
  have HB := Lib.hid h7
  have HG := Lib.hid (G1.trans G7)
  clear h7 G7
  go_loopw [2] (fun i wr => ∃ q : Nat, q ≤ 6 ∧ i = .int .i64 q ∧ Hid (Gw W7 wr)) (fun i _ => 6 - (intOf i).toNat)
  case atStart => exact ⟨0, by omega, rfl, Gw.refl _⟩
  case round =>
    obtain ⟨q, hq, rfl, G⟩ := hrel
    by_cases hq6 : q < 6
    · obtain ⟨u, hu, hc⟩ := B q hq6
      have hcu : wr.cell? ⟨w1.heap.size + 1 + 1 + 1 + 1 + 1 + 1, q, none⟩ = some u := ((HB.out.on G.out).cell q).trans hu
      obtain ⟨A, n, c, rfl⟩ : ∃ A n c, u = .slice A n c := by
        match q, hq6, hu with
        | 0, _, hu => cases hu; exact ⟨_, _, _, rfl⟩
        | 1, _, hu => cases hu; exact ⟨_, _, _, rfl⟩
        | 2, _, hu => cases hu; exact ⟨_, _, _, rfl⟩
        | 3, _, hu => cases hu; exact ⟨_, _, _, rfl⟩
        | 4, _, hu => cases hu; exact ⟨_, _, _, rfl⟩
        | 5, _, hu => cases hu; exact ⟨_, _, _, rfl⟩
      have CN := hc wr G.out
      clear hu hc B
      go_wp2_with (go_at_call 10; with_reducible refine CN.mono ?_; rintro e wn ⟨rfl, Gn⟩)
      go_roundw
      case rel => exact ⟨q + 1, by omega, by go_num, G.out.trans Gn⟩
      case measure => simp [intOf]; omega
    · have hq' : decide ((q : Int) < 6) = false := decide_eq_false (by omega)
      clear B HB
      have GW := Lib.hid (HG.out.trans G.out)
      have NW := m_new C (GW.out.trans (Gw.alloc wr _)) (ent_row (es := ek) (Has.new wr 44 #[.string ⟨#[97]⟩, .bool false, .int .i64 0, .string ⟨#[100]⟩, .bool true, .int .i64 0, .string ⟨#[100, 47, 98]⟩, .bool false, .int .i64 0]) (by rfl)) (ent_sm (by decide +kernel)) (by decide) newk
      rw [show ek.length = 3 from rfl] at NW
      go_wp2_with (first
          | (go_at_call 10; with_reducible refine NW.mono ?_; rintro e wx ⟨a, rfl, M⟩)
          | (go_at_call 16; first | (with_reducible refine (kc0 C M).mono ?_; rintro e wx ⟨rfl, M⟩) | (with_reducible refine (kc1 C M).mono ?_; rintro e wx ⟨rfl, M⟩) | (with_reducible refine (kc2 C M).mono ?_; rintro e wx ⟨rfl, M⟩) | (with_reducible refine (kc3 C M).mono ?_; rintro e wx ⟨rfl, M⟩) | (with_reducible refine (kc4 C M).mono ?_; rintro e wx ⟨rfl, M⟩) | (with_reducible refine (kc14 C M).mono ?_; rintro e wx ⟨rfl, M⟩))
          | (go_at_call 17; first | (with_reducible refine (kc5 C M).mono ?_; rintro e wx ⟨rfl, M⟩) | (with_reducible refine (kc6 C M).mono ?_; rintro e wx ⟨rfl, M⟩) | (with_reducible refine (kc7 C M).mono ?_; rintro e wx ⟨rfl, M⟩) | (with_reducible refine (kc13 C M).mono ?_; rintro e wx ⟨rfl, M⟩))
          | (go_at_call 18; first | (with_reducible refine (kc8 C M).mono ?_; rintro e wx ⟨rfl, M⟩) | (with_reducible refine (kc9 C M).mono ?_; rintro e wx ⟨rfl, M⟩) | (with_reducible refine (kc10 C M).mono ?_; rintro e wx ⟨rfl, M⟩) | (with_reducible refine (kc11 C M).mono ?_; rintro e wx ⟨rfl, M⟩))
          | (go_at_call 19; first | (with_reducible refine (kc12 C M).mono ?_; rintro e wx ⟨rfl, M⟩) | (with_reducible refine (kc15 C M).mono ?_; rintro e wx ⟨rfl, M⟩))
          | (go_at_call 13; with_reducible refine (kcl C M).mono ?_; rintro e wx ⟨rfl, M⟩)
        )
      go_ret
      exact ⟨rfl, M.gw⟩
end Go.Proofs.Ytlnobekjcengfaa
