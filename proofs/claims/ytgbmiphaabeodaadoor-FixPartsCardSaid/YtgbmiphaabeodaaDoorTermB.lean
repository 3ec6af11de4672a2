/-
  Build of the law's package: words for its loop: the frame at a round's head, what holds there.
-/
import Derived.Test.YtgbmiphaabeodaaDoorTermB0
import Derived.Deep.DeepCutAuto
import Derived.Deep.CutRange
namespace Go.Proofs.YtgbmiphaabeodaaDoor
open Go.ChangeShapes Go.WideShapes Go.ChangeAt Go.RowKit
set_option linter.unusedVariables false

def va (vs : List Int) : Array Value := ⟨vs.map (Value.int .i64)⟩
theorem va_at {w : World} {vb : Nat} {vs : List Int} (h : Has w vb 62 (va vs)) {id : Nat} {u : Int} (hu : vs[id]? = some u) : w.cell? ⟨vb, id, none⟩ = some (.int .i64 u) := by
  rw [h.cell]; simp [va, hu]
theorem va_set (vs : List Int) (id : Nat) (u : Int) : (va vs).setIfInBounds id (.int .i64 u) = va (vs.set id u) := by simp [va, List.map_set]
theorem zero_vars (w : World) : (zeroValue 62).run Tryd.prog w = .ok (.agg (va (List.replicate 64 0))) w := by kernel_rfl
theorem zero_made (w : World) : (zeroValue 38).run Tryd.prog w = .ok (.agg #[.int .i64 0, .int .i64 0, .int .i64 0, .int .u16 0, .int .u8 0, .int .u8 0, .int .u8 0, .int .i64 0, .int .i64 0, .int .i64 0, .int .i64 0]) w := by kernel_rfl
structure BRel (W0 wr : World) (ab vb k : Nat) (lv : Value) (ns : List Nd) (ms : List Md) (vs : List Int) : Prop where
  cur : Cur W0 wr ab ns (fun b => b = vb ∨ lv.ownBlock = some b)
  hv : Has wr vb 62 (va vs)
  vok : VarsOk ns vs
  row : wr.ownsRow W0.heap.size 38 11 lv ms.length (mdCells ms)
  mok : MadesOk ns ms
  nl : ns.length ≤ k
  ml : ms.length ≤ k
  vge : W0.heap.size ≤ vb
def BuildPost (W0 : World) (ab : Nat) (rs : List Rw) (e : Ending) (w' : World) : Prop :=
  ∃ ns ms A c, e = .returned (.tuple #[.slice A ms.length c, .bool true]) ∧ Cur W0 w' ab ns (fun b => Value.ownBlock (.slice A ms.length c) = some b) ∧ w'.ownsRow W0.heap.size 38 11 (.slice A ms.length c) ms.length (mdCells ms) ∧ MadesOk ns ms ∧ ms.length ≤ rs.length ∧ ns.length ≤ 200
theorem Cur.grown2 {W0 w w' : World} {ab : Nat} {ns : List Nd} {Q Q' : Nat → Prop} (h : Cur W0 w ab ns Q) {row : Option Nat} (hg : w.grownBy w' row) (hr : ∀ k, row = some k → Q k ∧ W0.heap.size ≤ k) (hq : ∀ k, Q' k → Q k ∨ (w.heap.size ≤ k ∧ k < w'.heap.size)) : Cur W0 w' ab ns Q' := by
  obtain ⟨foot, a, b, c, d⟩ := h
  refine ⟨foot, a.keep (fun k hk => hg.block k (a.lt k hk) (fun e => (c k hk).2 (hr k e.symm).1)) hg.size, b.grown hg b.size (fun k e => (hr k e).2), fun k hk => ⟨(c k hk).1, fun q => ?_⟩, fun k hk => ?_⟩
  · rcases hq k q with q | ⟨q, _⟩
    · exact (c k hk).2 q
    · have := a.lt k hk; omega
  · rcases hq k hk with q | ⟨_, q⟩
    · exact Nat.lt_of_lt_of_le (d k q) hg.size
    · exact q
theorem infoMade : (Tryd.prog.info? 38).map (fun i => (i.zero, i.size, i.bytes)) = some (some (.agg #[.int .i64 0, .int .i64 0, .int .i64 0, .int .u16 0, .int .u8 0, .int .u8 0, .int .u8 0, .int .i64 0, .int .i64 0, .int .i64 0, .int .i64 0]), 11, 64) := by kernel_rfl
/-- The blocks that the law keeps for itself within a round. -/
def Qm (vb rb : Nat) (lv : Value) : Nat → Prop := fun b => (b = vb ∨ lv.ownBlock = some b) ∨ b = rb ∨ b = rb + 1
/-- The first loop of a body. -/
def inner : Code → Option Code
  | .loop c => some c
  | .seq a b => match inner a with
    | some c => some c
    | none => inner b
  | .block _ c => inner c
  | .scope c => inner c
  | .cond _ a b => match inner a with
    | some c => some c
    | none => inner b
  | _ => none
noncomputable def bbody : Code := ((Tryd.f8.body.bind inner).getD .skip)
/-- What holds at a round's head. -/
def WI (W0 : World) (ab vb cap : Nat) (A : Option Addr) (rs : List Rw) (a : Act) (w : World) : Prop :=
  ∃ (k : Nat) (ns : List Nd) (ms : List Md) (vs : List Int) (lv : Value), k ≤ rs.length ∧ a.defers = [] ∧ a.tmps.size = 325 ∧ a.tmps[0]? = some (ptr ab) ∧ a.tmps[1]? = some (.slice A rs.length cap) ∧ a.tmps[6]? = some lv ∧ a.tmps[7]? = some (ptr vb) ∧ a.tmps[8]? = some (.int .i64 k) ∧ BRel W0 w ab vb k lv ns ms vs
def Wmu (n : Nat) (a : Act) : Nat := n - (intOf (a.tmps.getD 8 undef)).toNat
set_option maxRecDepth 1000000 in
theorem arr_eta (t : Array Value) (h : t.size = 325) : t = #[t.getD 0 undef, t.getD 1 undef, t.getD 2 undef, t.getD 3 undef, t.getD 4 undef, t.getD 5 undef, t.getD 6 undef, t.getD 7 undef, t.getD 8 undef, t.getD 9 undef, t.getD 10 undef, t.getD 11 undef, t.getD 12 undef, t.getD 13 undef, t.getD 14 undef, t.getD 15 undef, t.getD 16 undef, t.getD 17 undef, t.getD 18 undef, t.getD 19 undef, t.getD 20 undef, t.getD 21 undef, t.getD 22 undef, t.getD 23 undef, t.getD 24 undef, t.getD 25 undef, t.getD 26 undef, t.getD 27 undef, t.getD 28 undef, t.getD 29 undef, t.getD 30 undef, t.getD 31 undef, t.getD 32 undef, t.getD 33 undef, t.getD 34 undef, t.getD 35 undef, t.getD 36 undef, t.getD 37 undef, t.getD 38 undef, t.getD 39 undef, t.getD 40 undef, t.getD 41 undef, t.getD 42 undef, t.getD 43 undef, t.getD 44 undef, t.getD 45 undef, t.getD 46 undef, t.getD 47 undef, t.getD 48 undef, t.getD 49 undef, t.getD 50 undef, t.getD 51 undef, t.getD 52 undef, t.getD 53 undef, t.getD 54 undef, t.getD 55 undef, t.getD 56 undef, t.getD 57 undef, t.getD 58 undef, t.getD 59 undef, t.getD 60 undef, t.getD 61 undef, t.getD 62 undef, t.getD 63 undef, t.getD 64 undef, t.getD 65 undef, t.getD 66 undef, t.getD 67 undef, t.getD 68 undef, t.getD 69 undef, t.getD 70 undef, t.getD 71 undef, t.getD 72 undef, t.getD 73 undef, t.getD 74 undef, t.getD 75 undef, t.getD 76 undef, t.getD 77 undef, t.getD 78 undef, t.getD 79 undef, t.getD 80 undef, t.getD 81 undef, t.getD 82 undef, t.getD 83 undef, t.getD 84 undef, t.getD 85 undef, t.getD 86 undef, t.getD 87 undef, t.getD 88 undef, t.getD 89 undef, t.getD 90 undef, t.getD 91 undef, t.getD 92 undef, t.getD 93 undef, t.getD 94 undef, t.getD 95 undef, t.getD 96 undef, t.getD 97 undef, t.getD 98 undef, t.getD 99 undef, t.getD 100 undef, t.getD 101 undef, t.getD 102 undef, t.getD 103 undef, t.getD 104 undef, t.getD 105 undef, t.getD 106 undef, t.getD 107 undef, t.getD 108 undef, t.getD 109 undef, t.getD 110 undef, t.getD 111 undef, t.getD 112 undef, t.getD 113 undef, t.getD 114 undef, t.getD 115 undef, t.getD 116 undef, t.getD 117 undef, t.getD 118 undef, t.getD 119 undef, t.getD 120 undef, t.getD 121 undef, t.getD 122 undef, t.getD 123 undef, t.getD 124 undef, t.getD 125 undef, t.getD 126 undef, t.getD 127 undef, t.getD 128 undef, t.getD 129 undef, t.getD 130 undef, t.getD 131 undef, t.getD 132 undef, t.getD 133 undef, t.getD 134 undef, t.getD 135 undef, t.getD 136 undef, t.getD 137 undef, t.getD 138 undef, t.getD 139 undef, t.getD 140 undef, t.getD 141 undef, t.getD 142 undef, t.getD 143 undef, t.getD 144 undef, t.getD 145 undef, t.getD 146 undef, t.getD 147 undef, t.getD 148 undef, t.getD 149 undef, t.getD 150 undef, t.getD 151 undef, t.getD 152 undef, t.getD 153 undef, t.getD 154 undef, t.getD 155 undef, t.getD 156 undef, t.getD 157 undef, t.getD 158 undef, t.getD 159 undef, t.getD 160 undef, t.getD 161 undef, t.getD 162 undef, t.getD 163 undef, t.getD 164 undef, t.getD 165 undef, t.getD 166 undef, t.getD 167 undef, t.getD 168 undef, t.getD 169 undef, t.getD 170 undef, t.getD 171 undef, t.getD 172 undef, t.getD 173 undef, t.getD 174 undef, t.getD 175 undef, t.getD 176 undef, t.getD 177 undef, t.getD 178 undef, t.getD 179 undef, t.getD 180 undef, t.getD 181 undef, t.getD 182 undef, t.getD 183 undef, t.getD 184 undef, t.getD 185 undef, t.getD 186 undef, t.getD 187 undef, t.getD 188 undef, t.getD 189 undef, t.getD 190 undef, t.getD 191 undef, t.getD 192 undef, t.getD 193 undef, t.getD 194 undef, t.getD 195 undef, t.getD 196 undef, t.getD 197 undef, t.getD 198 undef, t.getD 199 undef, t.getD 200 undef, t.getD 201 undef, t.getD 202 undef, t.getD 203 undef, t.getD 204 undef, t.getD 205 undef, t.getD 206 undef, t.getD 207 undef, t.getD 208 undef, t.getD 209 undef, t.getD 210 undef, t.getD 211 undef, t.getD 212 undef, t.getD 213 undef, t.getD 214 undef, t.getD 215 undef, t.getD 216 undef, t.getD 217 undef, t.getD 218 undef, t.getD 219 undef, t.getD 220 undef, t.getD 221 undef, t.getD 222 undef, t.getD 223 undef, t.getD 224 undef, t.getD 225 undef, t.getD 226 undef, t.getD 227 undef, t.getD 228 undef, t.getD 229 undef, t.getD 230 undef, t.getD 231 undef, t.getD 232 undef, t.getD 233 undef, t.getD 234 undef, t.getD 235 undef, t.getD 236 undef, t.getD 237 undef, t.getD 238 undef, t.getD 239 undef, t.getD 240 undef, t.getD 241 undef, t.getD 242 undef, t.getD 243 undef, t.getD 244 undef, t.getD 245 undef, t.getD 246 undef, t.getD 247 undef, t.getD 248 undef, t.getD 249 undef, t.getD 250 undef, t.getD 251 undef, t.getD 252 undef, t.getD 253 undef, t.getD 254 undef, t.getD 255 undef, t.getD 256 undef, t.getD 257 undef, t.getD 258 undef, t.getD 259 undef, t.getD 260 undef, t.getD 261 undef, t.getD 262 undef, t.getD 263 undef, t.getD 264 undef, t.getD 265 undef, t.getD 266 undef, t.getD 267 undef, t.getD 268 undef, t.getD 269 undef, t.getD 270 undef, t.getD 271 undef, t.getD 272 undef, t.getD 273 undef, t.getD 274 undef, t.getD 275 undef, t.getD 276 undef, t.getD 277 undef, t.getD 278 undef, t.getD 279 undef, t.getD 280 undef, t.getD 281 undef, t.getD 282 undef, t.getD 283 undef, t.getD 284 undef, t.getD 285 undef, t.getD 286 undef, t.getD 287 undef, t.getD 288 undef, t.getD 289 undef, t.getD 290 undef, t.getD 291 undef, t.getD 292 undef, t.getD 293 undef, t.getD 294 undef, t.getD 295 undef, t.getD 296 undef, t.getD 297 undef, t.getD 298 undef, t.getD 299 undef, t.getD 300 undef, t.getD 301 undef, t.getD 302 undef, t.getD 303 undef, t.getD 304 undef, t.getD 305 undef, t.getD 306 undef, t.getD 307 undef, t.getD 308 undef, t.getD 309 undef, t.getD 310 undef, t.getD 311 undef, t.getD 312 undef, t.getD 313 undef, t.getD 314 undef, t.getD 315 undef, t.getD 316 undef, t.getD 317 undef, t.getD 318 undef, t.getD 319 undef, t.getD 320 undef, t.getD 321 undef, t.getD 322 undef, t.getD 323 undef, t.getD 324 undef] := by
  have e : t.toList = (List.range 325).map (fun i => t.getD i undef) := by
    refine List.ext_getElem (by simp [h]) fun i h1 h2 => ?_
    have : i < t.size := by simpa using h1
    simp [Array.getD, this]
  exact Array.ext' (e.trans (by kernel_rfl))
end Go.Proofs.YtgbmiphaabeodaaDoor
