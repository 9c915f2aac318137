/- Layer 7, cell: what the law is told to do; the document's table at its start. -/
import Derived.Test.YtfhlpbjdcdagjaaGreatDoorCelU
import Derived.Test.YtfhlpbjdcdagjaaGreatDoorRefG
import Derived.Deep.LoopGhost
import Derived.Deep.DeepCutAuto
import Derived.Deep.CutBlock
import Derived.Deep.QuietTactic
import Derived.BigQuiet
import Derived.BigRegion
namespace Go.Proofs.YtfhlpbjdcdagjaaGreatDoor
open Go.RowKit Go.Lib Go.MapKept
open Go.Sort (grow)
set_option linter.unusedVariables false
set_option maxRecDepth 100000

structure OpT where
  k : Int
  x : Ent
  p : List (Int × Int)
  r : Rec3
  l : List Int

def op0 : OpT := ⟨0, e0, [], (0, (0, 0)), []⟩

instance : Inhabited OpT := ⟨op0⟩

structure OpI (y : OpT) : Prop where
  k : I64 y.k
  x : entI y.x
  r : I64 y.r.1 ∧ I64 y.r.2.1 ∧ I64 y.r.2.2

/-- An operation in memory. -/
structure OpC (w : World) (B : Nat) (b o : Nat) (y : OpT) : Prop where
  k : w.cell? ⟨b, o, none⟩ = some (.int .i64 y.k)
  x0 : w.cell? ⟨b, o + 1, none⟩ = some (.int .i64 y.x.1.1)
  x1 : w.cell? ⟨b, o + 2, none⟩ = some (.int .i64 y.x.1.2)
  x2 : w.cell? ⟨b, o + 3, none⟩ = some (.int .i64 y.x.2.1.1)
  x3 : w.cell? ⟨b, o + 4, none⟩ = some (.int .i64 y.x.2.1.2)
  x4 : w.cell? ⟨b, o + 5, none⟩ = some (.int .i64 y.x.2.2.1)
  x5 : w.cell? ⟨b, o + 6, none⟩ = some (.int .i64 y.x.2.2.2)
  p : ∃ v, w.cell? ⟨b, o + 7, none⟩ = some v ∧ SlV w B v y.p
  r0 : w.cell? ⟨b, o + 8, none⟩ = some (.int .i64 y.r.1)
  r1 : w.cell? ⟨b, o + 9, none⟩ = some (.int .i64 y.r.2.1)
  r2 : w.cell? ⟨b, o + 10, none⟩ = some (.int .i64 y.r.2.2)
  l : ∃ v, w.cell? ⟨b, o + 11, none⟩ = some v ∧ SlI w B .i64 v y.l

def SlO (w : World) (B : Nat) (v : Value) (L : List OpT) : Prop :=
  ∃ A c, v = .slice A L.length c ∧ L.length ≤ c ∧ (0 < L.length → ∃ b o, A = some ⟨b, o, none⟩ ∧ b < B ∧ ∀ j, j < L.length → OpC w B b (o + j * 12) (L.getD j op0))

theorem OpC.below {w w' : World} {B b o : Nat} {y : OpT} (h : OpC w B b o y) (hb : Below B w w') (hB : b < B) : OpC w' B b o y := by
  have hc := fun o => hb.cell (p := ⟨b, o, none⟩) hB
  obtain ⟨v, p1, p2⟩ := h.p
  obtain ⟨u, l1, l2⟩ := h.l
  exact ⟨(hc _).trans h.k, (hc _).trans h.x0, (hc _).trans h.x1, (hc _).trans h.x2, (hc _).trans h.x3, (hc _).trans h.x4, (hc _).trans h.x5, ⟨v, (hc _).trans p1, p2.below hb⟩, (hc _).trans h.r0, (hc _).trans h.r1, (hc _).trans h.r2, ⟨u, (hc _).trans l1, l2.below hb⟩⟩

structure SoIn (w : World) (v : Value) (L : List OpT) : Prop where
  row : SlO w w.heap.size v L
  fits : ∀ j, j < L.length → OpI (L.getD j op0)

theorem zero_cells : Tryz.zeroCells35 = Array.replicate 2048 (.int .i64 0) := by kernel_rfl

theorem table_zero (w : World) (t : TypeId) : DTab (w.alloc (.cells Tryz.zeroCells35 t)) w.heap.size noTab := by
  rw [zero_cells]
  refine ⟨by simp, fun n k hn hk => ?_, fun j => World.frozen?_alloc_new _ _ _ _⟩
  have hc : ∀ o, o < 2048 → (w.alloc (.cells (Array.replicate 2048 (.int .i64 0)) t)).cell? ⟨w.heap.size, o, none⟩ = some (.int .i64 0) := fun o ho => by
    rw [World.cell?_alloc_new]
    simp [ho]
  exact ⟨hc _ (by omega), hc _ (by omega), hc _ (by omega), hc _ (by omega)⟩

end Go.Proofs.YtfhlpbjdcdagjaaGreatDoor

namespace Go.Proofs.YtfhlpbjdcdagjaaGreatDoor
open Go.RowKit Go.Lib Go.MapKept
open Go.Sort (grow)
set_option linter.unusedVariables false
set_option maxRecDepth 100000

/-- The code from region k on. -/
noncomputable def plyCod (k : Nat) : Code := (Tryz.f3.body.bind (cutAt k)).getD .skip

/-- A cut: what follows is shown once. -/
theorem cut_c {P : Program} {Q : Exit → Act → World → Prop} {c : Code} {a0 : Act} {w0 : World} (H : Act → World → Prop) (h1 : ∀ a w, H a w → Q .normal a w) (h2 : (∀ a w, H a w → Q .normal a w) → c.wp P Q a0 w0) : c.wp P Q a0 w0 := h2 h1

/-- The first loop's frame. -/
structure FrA (v1 v5 v6 : Value) (g : Nat) (v38 : Value) (n i : Int) (a : Act) : Prop where
  size : a.tmps.size = 319
  defers : a.defers = []
  t1 : a.tmps.getD 1 undef = v1
  t5 : a.tmps.getD 5 undef = v5
  t6 : a.tmps.getD 6 undef = v6
  t7 : a.tmps.getD 7 undef = .pointer (some ⟨g, 0, none⟩)
  t38 : a.tmps.getD 38 undef = v38
  t39 : a.tmps.getD 39 undef = .int .i64 n
  t40 : a.tmps.getD 40 undef = .int .i64 i

theorem FrA.open_ {v1 v5 v6 : Value} {g : Nat} {v38 : Value} {n i : Int} {a : Act} (h : FrA v1 v5 v6 g v38 n i a) : ∃ u : Nat → Value, a = ⟨(u 0 :: v1 :: u 2 :: u 3 :: u 4 :: v5 :: v6 :: .pointer (some ⟨g, 0, none⟩) :: u 8 :: u 9 :: u 10 :: u 11 :: u 12 :: u 13 :: u 14 :: u 15 :: u 16 :: u 17 :: u 18 :: u 19 :: u 20 :: u 21 :: u 22 :: u 23 :: u 24 :: u 25 :: u 26 :: u 27 :: u 28 :: u 29 :: u 30 :: u 31 :: u 32 :: u 33 :: u 34 :: u 35 :: u 36 :: u 37 :: v38 :: .int .i64 n :: .int .i64 i :: u 41 :: u 42 :: u 43 :: u 44 :: u 45 :: u 46 :: u 47 :: u 48 :: u 49 :: u 50 :: u 51 :: u 52 :: u 53 :: u 54 :: u 55 :: u 56 :: u 57 :: u 58 :: u 59 :: u 60 :: u 61 :: u 62 :: u 63 :: u 64 :: u 65 :: u 66 :: u 67 :: u 68 :: u 69 :: u 70 :: u 71 :: u 72 :: u 73 :: u 74 :: u 75 :: u 76 :: u 77 :: u 78 :: u 79 :: u 80 :: u 81 :: u 82 :: u 83 :: u 84 :: u 85 :: u 86 :: u 87 :: u 88 :: u 89 :: u 90 :: u 91 :: u 92 :: u 93 :: u 94 :: u 95 :: u 96 :: u 97 :: u 98 :: u 99 :: u 100 :: u 101 :: u 102 :: u 103 :: u 104 :: u 105 :: u 106 :: u 107 :: u 108 :: u 109 :: u 110 :: u 111 :: u 112 :: u 113 :: u 114 :: u 115 :: u 116 :: u 117 :: u 118 :: u 119 :: u 120 :: u 121 :: u 122 :: u 123 :: u 124 :: u 125 :: u 126 :: u 127 :: u 128 :: u 129 :: u 130 :: u 131 :: u 132 :: u 133 :: u 134 :: u 135 :: u 136 :: u 137 :: u 138 :: u 139 :: u 140 :: u 141 :: u 142 :: u 143 :: u 144 :: u 145 :: u 146 :: u 147 :: u 148 :: u 149 :: u 150 :: u 151 :: u 152 :: u 153 :: u 154 :: u 155 :: u 156 :: u 157 :: u 158 :: u 159 :: u 160 :: u 161 :: u 162 :: u 163 :: u 164 :: u 165 :: u 166 :: u 167 :: u 168 :: u 169 :: u 170 :: u 171 :: u 172 :: u 173 :: u 174 :: u 175 :: u 176 :: u 177 :: u 178 :: u 179 :: u 180 :: u 181 :: u 182 :: u 183 :: u 184 :: u 185 :: u 186 :: u 187 :: u 188 :: u 189 :: u 190 :: u 191 :: u 192 :: u 193 :: u 194 :: u 195 :: u 196 :: u 197 :: u 198 :: u 199 :: u 200 :: u 201 :: u 202 :: u 203 :: u 204 :: u 205 :: u 206 :: u 207 :: u 208 :: u 209 :: u 210 :: u 211 :: u 212 :: u 213 :: u 214 :: u 215 :: u 216 :: u 217 :: u 218 :: u 219 :: u 220 :: u 221 :: u 222 :: u 223 :: u 224 :: u 225 :: u 226 :: u 227 :: u 228 :: u 229 :: u 230 :: u 231 :: u 232 :: u 233 :: u 234 :: u 235 :: u 236 :: u 237 :: u 238 :: u 239 :: u 240 :: u 241 :: u 242 :: u 243 :: u 244 :: u 245 :: u 246 :: u 247 :: u 248 :: u 249 :: u 250 :: u 251 :: u 252 :: u 253 :: u 254 :: u 255 :: u 256 :: u 257 :: u 258 :: u 259 :: u 260 :: u 261 :: u 262 :: u 263 :: u 264 :: u 265 :: u 266 :: u 267 :: u 268 :: u 269 :: u 270 :: u 271 :: u 272 :: u 273 :: u 274 :: u 275 :: u 276 :: u 277 :: u 278 :: u 279 :: u 280 :: u 281 :: u 282 :: u 283 :: u 284 :: u 285 :: u 286 :: u 287 :: u 288 :: u 289 :: u 290 :: u 291 :: u 292 :: u 293 :: u 294 :: u 295 :: u 296 :: u 297 :: u 298 :: u 299 :: u 300 :: u 301 :: u 302 :: u 303 :: u 304 :: u 305 :: u 306 :: u 307 :: u 308 :: u 309 :: u 310 :: u 311 :: u 312 :: u 313 :: u 314 :: u 315 :: u 316 :: u 317 :: u 318 :: []).toArray, []⟩ := by
  obtain ⟨hn, hd, h1, h5, h6, h7, h38, h39, h40⟩ := h
  obtain ⟨u, hu⟩ : ∃ u : Nat → Value, u = fun k => a.tmps.getD k undef := ⟨_, rfl⟩
  have ha : a = ⟨(u 0 :: u 1 :: u 2 :: u 3 :: u 4 :: u 5 :: u 6 :: u 7 :: u 8 :: u 9 :: u 10 :: u 11 :: u 12 :: u 13 :: u 14 :: u 15 :: u 16 :: u 17 :: u 18 :: u 19 :: u 20 :: u 21 :: u 22 :: u 23 :: u 24 :: u 25 :: u 26 :: u 27 :: u 28 :: u 29 :: u 30 :: u 31 :: u 32 :: u 33 :: u 34 :: u 35 :: u 36 :: u 37 :: u 38 :: u 39 :: u 40 :: u 41 :: u 42 :: u 43 :: u 44 :: u 45 :: u 46 :: u 47 :: u 48 :: u 49 :: u 50 :: u 51 :: u 52 :: u 53 :: u 54 :: u 55 :: u 56 :: u 57 :: u 58 :: u 59 :: u 60 :: u 61 :: u 62 :: u 63 :: u 64 :: u 65 :: u 66 :: u 67 :: u 68 :: u 69 :: u 70 :: u 71 :: u 72 :: u 73 :: u 74 :: u 75 :: u 76 :: u 77 :: u 78 :: u 79 :: u 80 :: u 81 :: u 82 :: u 83 :: u 84 :: u 85 :: u 86 :: u 87 :: u 88 :: u 89 :: u 90 :: u 91 :: u 92 :: u 93 :: u 94 :: u 95 :: u 96 :: u 97 :: u 98 :: u 99 :: u 100 :: u 101 :: u 102 :: u 103 :: u 104 :: u 105 :: u 106 :: u 107 :: u 108 :: u 109 :: u 110 :: u 111 :: u 112 :: u 113 :: u 114 :: u 115 :: u 116 :: u 117 :: u 118 :: u 119 :: u 120 :: u 121 :: u 122 :: u 123 :: u 124 :: u 125 :: u 126 :: u 127 :: u 128 :: u 129 :: u 130 :: u 131 :: u 132 :: u 133 :: u 134 :: u 135 :: u 136 :: u 137 :: u 138 :: u 139 :: u 140 :: u 141 :: u 142 :: u 143 :: u 144 :: u 145 :: u 146 :: u 147 :: u 148 :: u 149 :: u 150 :: u 151 :: u 152 :: u 153 :: u 154 :: u 155 :: u 156 :: u 157 :: u 158 :: u 159 :: u 160 :: u 161 :: u 162 :: u 163 :: u 164 :: u 165 :: u 166 :: u 167 :: u 168 :: u 169 :: u 170 :: u 171 :: u 172 :: u 173 :: u 174 :: u 175 :: u 176 :: u 177 :: u 178 :: u 179 :: u 180 :: u 181 :: u 182 :: u 183 :: u 184 :: u 185 :: u 186 :: u 187 :: u 188 :: u 189 :: u 190 :: u 191 :: u 192 :: u 193 :: u 194 :: u 195 :: u 196 :: u 197 :: u 198 :: u 199 :: u 200 :: u 201 :: u 202 :: u 203 :: u 204 :: u 205 :: u 206 :: u 207 :: u 208 :: u 209 :: u 210 :: u 211 :: u 212 :: u 213 :: u 214 :: u 215 :: u 216 :: u 217 :: u 218 :: u 219 :: u 220 :: u 221 :: u 222 :: u 223 :: u 224 :: u 225 :: u 226 :: u 227 :: u 228 :: u 229 :: u 230 :: u 231 :: u 232 :: u 233 :: u 234 :: u 235 :: u 236 :: u 237 :: u 238 :: u 239 :: u 240 :: u 241 :: u 242 :: u 243 :: u 244 :: u 245 :: u 246 :: u 247 :: u 248 :: u 249 :: u 250 :: u 251 :: u 252 :: u 253 :: u 254 :: u 255 :: u 256 :: u 257 :: u 258 :: u 259 :: u 260 :: u 261 :: u 262 :: u 263 :: u 264 :: u 265 :: u 266 :: u 267 :: u 268 :: u 269 :: u 270 :: u 271 :: u 272 :: u 273 :: u 274 :: u 275 :: u 276 :: u 277 :: u 278 :: u 279 :: u 280 :: u 281 :: u 282 :: u 283 :: u 284 :: u 285 :: u 286 :: u 287 :: u 288 :: u 289 :: u 290 :: u 291 :: u 292 :: u 293 :: u 294 :: u 295 :: u 296 :: u 297 :: u 298 :: u 299 :: u 300 :: u 301 :: u 302 :: u 303 :: u 304 :: u 305 :: u 306 :: u 307 :: u 308 :: u 309 :: u 310 :: u 311 :: u 312 :: u 313 :: u 314 :: u 315 :: u 316 :: u 317 :: u 318 :: []).toArray, a.defers⟩ := by
    rw [hu]; exact frame_eq hn
  have e1 : u 1 = _ := (congrFun hu 1).trans h1
  have e5 : u 5 = _ := (congrFun hu 5).trans h5
  have e6 : u 6 = _ := (congrFun hu 6).trans h6
  have e7 : u 7 = _ := (congrFun hu 7).trans h7
  have e38 : u 38 = _ := (congrFun hu 38).trans h38
  have e39 : u 39 = _ := (congrFun hu 39).trans h39
  have e40 : u 40 = _ := (congrFun hu 40).trans h40
  rw [e1, e5, e6, e7, e38, e39, e40, hd] at ha
  exact ⟨u, ha⟩

/-- The second loop's frame. -/
structure FrB (v5 : Value) (g : Nat) (v70 : Value) (n i : Int) (a : Act) : Prop where
  size : a.tmps.size = 319
  defers : a.defers = []
  t5 : a.tmps.getD 5 undef = v5
  t7 : a.tmps.getD 7 undef = .pointer (some ⟨g, 0, none⟩)
  t70 : a.tmps.getD 70 undef = v70
  t71 : a.tmps.getD 71 undef = .int .i64 n
  t72 : a.tmps.getD 72 undef = .int .i64 i

theorem FrB.open_ {v5 : Value} {g : Nat} {v70 : Value} {n i : Int} {a : Act} (h : FrB v5 g v70 n i a) : ∃ u : Nat → Value, a = ⟨(u 0 :: u 1 :: u 2 :: u 3 :: u 4 :: v5 :: u 6 :: .pointer (some ⟨g, 0, none⟩) :: u 8 :: u 9 :: u 10 :: u 11 :: u 12 :: u 13 :: u 14 :: u 15 :: u 16 :: u 17 :: u 18 :: u 19 :: u 20 :: u 21 :: u 22 :: u 23 :: u 24 :: u 25 :: u 26 :: u 27 :: u 28 :: u 29 :: u 30 :: u 31 :: u 32 :: u 33 :: u 34 :: u 35 :: u 36 :: u 37 :: u 38 :: u 39 :: u 40 :: u 41 :: u 42 :: u 43 :: u 44 :: u 45 :: u 46 :: u 47 :: u 48 :: u 49 :: u 50 :: u 51 :: u 52 :: u 53 :: u 54 :: u 55 :: u 56 :: u 57 :: u 58 :: u 59 :: u 60 :: u 61 :: u 62 :: u 63 :: u 64 :: u 65 :: u 66 :: u 67 :: u 68 :: u 69 :: v70 :: .int .i64 n :: .int .i64 i :: u 73 :: u 74 :: u 75 :: u 76 :: u 77 :: u 78 :: u 79 :: u 80 :: u 81 :: u 82 :: u 83 :: u 84 :: u 85 :: u 86 :: u 87 :: u 88 :: u 89 :: u 90 :: u 91 :: u 92 :: u 93 :: u 94 :: u 95 :: u 96 :: u 97 :: u 98 :: u 99 :: u 100 :: u 101 :: u 102 :: u 103 :: u 104 :: u 105 :: u 106 :: u 107 :: u 108 :: u 109 :: u 110 :: u 111 :: u 112 :: u 113 :: u 114 :: u 115 :: u 116 :: u 117 :: u 118 :: u 119 :: u 120 :: u 121 :: u 122 :: u 123 :: u 124 :: u 125 :: u 126 :: u 127 :: u 128 :: u 129 :: u 130 :: u 131 :: u 132 :: u 133 :: u 134 :: u 135 :: u 136 :: u 137 :: u 138 :: u 139 :: u 140 :: u 141 :: u 142 :: u 143 :: u 144 :: u 145 :: u 146 :: u 147 :: u 148 :: u 149 :: u 150 :: u 151 :: u 152 :: u 153 :: u 154 :: u 155 :: u 156 :: u 157 :: u 158 :: u 159 :: u 160 :: u 161 :: u 162 :: u 163 :: u 164 :: u 165 :: u 166 :: u 167 :: u 168 :: u 169 :: u 170 :: u 171 :: u 172 :: u 173 :: u 174 :: u 175 :: u 176 :: u 177 :: u 178 :: u 179 :: u 180 :: u 181 :: u 182 :: u 183 :: u 184 :: u 185 :: u 186 :: u 187 :: u 188 :: u 189 :: u 190 :: u 191 :: u 192 :: u 193 :: u 194 :: u 195 :: u 196 :: u 197 :: u 198 :: u 199 :: u 200 :: u 201 :: u 202 :: u 203 :: u 204 :: u 205 :: u 206 :: u 207 :: u 208 :: u 209 :: u 210 :: u 211 :: u 212 :: u 213 :: u 214 :: u 215 :: u 216 :: u 217 :: u 218 :: u 219 :: u 220 :: u 221 :: u 222 :: u 223 :: u 224 :: u 225 :: u 226 :: u 227 :: u 228 :: u 229 :: u 230 :: u 231 :: u 232 :: u 233 :: u 234 :: u 235 :: u 236 :: u 237 :: u 238 :: u 239 :: u 240 :: u 241 :: u 242 :: u 243 :: u 244 :: u 245 :: u 246 :: u 247 :: u 248 :: u 249 :: u 250 :: u 251 :: u 252 :: u 253 :: u 254 :: u 255 :: u 256 :: u 257 :: u 258 :: u 259 :: u 260 :: u 261 :: u 262 :: u 263 :: u 264 :: u 265 :: u 266 :: u 267 :: u 268 :: u 269 :: u 270 :: u 271 :: u 272 :: u 273 :: u 274 :: u 275 :: u 276 :: u 277 :: u 278 :: u 279 :: u 280 :: u 281 :: u 282 :: u 283 :: u 284 :: u 285 :: u 286 :: u 287 :: u 288 :: u 289 :: u 290 :: u 291 :: u 292 :: u 293 :: u 294 :: u 295 :: u 296 :: u 297 :: u 298 :: u 299 :: u 300 :: u 301 :: u 302 :: u 303 :: u 304 :: u 305 :: u 306 :: u 307 :: u 308 :: u 309 :: u 310 :: u 311 :: u 312 :: u 313 :: u 314 :: u 315 :: u 316 :: u 317 :: u 318 :: []).toArray, []⟩ := by
  obtain ⟨hn, hd, h5, h7, h70, h71, h72⟩ := h
  obtain ⟨u, hu⟩ : ∃ u : Nat → Value, u = fun k => a.tmps.getD k undef := ⟨_, rfl⟩
  have ha : a = ⟨(u 0 :: u 1 :: u 2 :: u 3 :: u 4 :: u 5 :: u 6 :: u 7 :: u 8 :: u 9 :: u 10 :: u 11 :: u 12 :: u 13 :: u 14 :: u 15 :: u 16 :: u 17 :: u 18 :: u 19 :: u 20 :: u 21 :: u 22 :: u 23 :: u 24 :: u 25 :: u 26 :: u 27 :: u 28 :: u 29 :: u 30 :: u 31 :: u 32 :: u 33 :: u 34 :: u 35 :: u 36 :: u 37 :: u 38 :: u 39 :: u 40 :: u 41 :: u 42 :: u 43 :: u 44 :: u 45 :: u 46 :: u 47 :: u 48 :: u 49 :: u 50 :: u 51 :: u 52 :: u 53 :: u 54 :: u 55 :: u 56 :: u 57 :: u 58 :: u 59 :: u 60 :: u 61 :: u 62 :: u 63 :: u 64 :: u 65 :: u 66 :: u 67 :: u 68 :: u 69 :: u 70 :: u 71 :: u 72 :: u 73 :: u 74 :: u 75 :: u 76 :: u 77 :: u 78 :: u 79 :: u 80 :: u 81 :: u 82 :: u 83 :: u 84 :: u 85 :: u 86 :: u 87 :: u 88 :: u 89 :: u 90 :: u 91 :: u 92 :: u 93 :: u 94 :: u 95 :: u 96 :: u 97 :: u 98 :: u 99 :: u 100 :: u 101 :: u 102 :: u 103 :: u 104 :: u 105 :: u 106 :: u 107 :: u 108 :: u 109 :: u 110 :: u 111 :: u 112 :: u 113 :: u 114 :: u 115 :: u 116 :: u 117 :: u 118 :: u 119 :: u 120 :: u 121 :: u 122 :: u 123 :: u 124 :: u 125 :: u 126 :: u 127 :: u 128 :: u 129 :: u 130 :: u 131 :: u 132 :: u 133 :: u 134 :: u 135 :: u 136 :: u 137 :: u 138 :: u 139 :: u 140 :: u 141 :: u 142 :: u 143 :: u 144 :: u 145 :: u 146 :: u 147 :: u 148 :: u 149 :: u 150 :: u 151 :: u 152 :: u 153 :: u 154 :: u 155 :: u 156 :: u 157 :: u 158 :: u 159 :: u 160 :: u 161 :: u 162 :: u 163 :: u 164 :: u 165 :: u 166 :: u 167 :: u 168 :: u 169 :: u 170 :: u 171 :: u 172 :: u 173 :: u 174 :: u 175 :: u 176 :: u 177 :: u 178 :: u 179 :: u 180 :: u 181 :: u 182 :: u 183 :: u 184 :: u 185 :: u 186 :: u 187 :: u 188 :: u 189 :: u 190 :: u 191 :: u 192 :: u 193 :: u 194 :: u 195 :: u 196 :: u 197 :: u 198 :: u 199 :: u 200 :: u 201 :: u 202 :: u 203 :: u 204 :: u 205 :: u 206 :: u 207 :: u 208 :: u 209 :: u 210 :: u 211 :: u 212 :: u 213 :: u 214 :: u 215 :: u 216 :: u 217 :: u 218 :: u 219 :: u 220 :: u 221 :: u 222 :: u 223 :: u 224 :: u 225 :: u 226 :: u 227 :: u 228 :: u 229 :: u 230 :: u 231 :: u 232 :: u 233 :: u 234 :: u 235 :: u 236 :: u 237 :: u 238 :: u 239 :: u 240 :: u 241 :: u 242 :: u 243 :: u 244 :: u 245 :: u 246 :: u 247 :: u 248 :: u 249 :: u 250 :: u 251 :: u 252 :: u 253 :: u 254 :: u 255 :: u 256 :: u 257 :: u 258 :: u 259 :: u 260 :: u 261 :: u 262 :: u 263 :: u 264 :: u 265 :: u 266 :: u 267 :: u 268 :: u 269 :: u 270 :: u 271 :: u 272 :: u 273 :: u 274 :: u 275 :: u 276 :: u 277 :: u 278 :: u 279 :: u 280 :: u 281 :: u 282 :: u 283 :: u 284 :: u 285 :: u 286 :: u 287 :: u 288 :: u 289 :: u 290 :: u 291 :: u 292 :: u 293 :: u 294 :: u 295 :: u 296 :: u 297 :: u 298 :: u 299 :: u 300 :: u 301 :: u 302 :: u 303 :: u 304 :: u 305 :: u 306 :: u 307 :: u 308 :: u 309 :: u 310 :: u 311 :: u 312 :: u 313 :: u 314 :: u 315 :: u 316 :: u 317 :: u 318 :: []).toArray, a.defers⟩ := by
    rw [hu]; exact frame_eq hn
  have e5 : u 5 = _ := (congrFun hu 5).trans h5
  have e7 : u 7 = _ := (congrFun hu 7).trans h7
  have e70 : u 70 = _ := (congrFun hu 70).trans h70
  have e71 : u 71 = _ := (congrFun hu 71).trans h71
  have e72 : u 72 = _ := (congrFun hu 72).trans h72
  rw [e5, e7, e70, e71, e72, hd] at ha
  exact ⟨u, ha⟩

/-- .. within a round. -/
structure FrC (v5 : Value) (g gb : Nat) (v70 : Value) (n i k : Int) (a : Act) : Prop where
  size : a.tmps.size = 319
  defers : a.defers = []
  t5 : a.tmps.getD 5 undef = v5
  t7 : a.tmps.getD 7 undef = .pointer (some ⟨g, 0, none⟩)
  t11 : a.tmps.getD 11 undef = .pointer (some ⟨gb, 0, none⟩)
  t70 : a.tmps.getD 70 undef = v70
  t71 : a.tmps.getD 71 undef = .int .i64 n
  t72 : a.tmps.getD 72 undef = .int .i64 i
  t87 : a.tmps.getD 87 undef = .int .i64 k

theorem FrC.open_ {v5 : Value} {g gb : Nat} {v70 : Value} {n i k : Int} {a : Act} (h : FrC v5 g gb v70 n i k a) : ∃ u : Nat → Value, a = ⟨(u 0 :: u 1 :: u 2 :: u 3 :: u 4 :: v5 :: u 6 :: .pointer (some ⟨g, 0, none⟩) :: u 8 :: u 9 :: u 10 :: .pointer (some ⟨gb, 0, none⟩) :: u 12 :: u 13 :: u 14 :: u 15 :: u 16 :: u 17 :: u 18 :: u 19 :: u 20 :: u 21 :: u 22 :: u 23 :: u 24 :: u 25 :: u 26 :: u 27 :: u 28 :: u 29 :: u 30 :: u 31 :: u 32 :: u 33 :: u 34 :: u 35 :: u 36 :: u 37 :: u 38 :: u 39 :: u 40 :: u 41 :: u 42 :: u 43 :: u 44 :: u 45 :: u 46 :: u 47 :: u 48 :: u 49 :: u 50 :: u 51 :: u 52 :: u 53 :: u 54 :: u 55 :: u 56 :: u 57 :: u 58 :: u 59 :: u 60 :: u 61 :: u 62 :: u 63 :: u 64 :: u 65 :: u 66 :: u 67 :: u 68 :: u 69 :: v70 :: .int .i64 n :: .int .i64 i :: u 73 :: u 74 :: u 75 :: u 76 :: u 77 :: u 78 :: u 79 :: u 80 :: u 81 :: u 82 :: u 83 :: u 84 :: u 85 :: u 86 :: .int .i64 k :: u 88 :: u 89 :: u 90 :: u 91 :: u 92 :: u 93 :: u 94 :: u 95 :: u 96 :: u 97 :: u 98 :: u 99 :: u 100 :: u 101 :: u 102 :: u 103 :: u 104 :: u 105 :: u 106 :: u 107 :: u 108 :: u 109 :: u 110 :: u 111 :: u 112 :: u 113 :: u 114 :: u 115 :: u 116 :: u 117 :: u 118 :: u 119 :: u 120 :: u 121 :: u 122 :: u 123 :: u 124 :: u 125 :: u 126 :: u 127 :: u 128 :: u 129 :: u 130 :: u 131 :: u 132 :: u 133 :: u 134 :: u 135 :: u 136 :: u 137 :: u 138 :: u 139 :: u 140 :: u 141 :: u 142 :: u 143 :: u 144 :: u 145 :: u 146 :: u 147 :: u 148 :: u 149 :: u 150 :: u 151 :: u 152 :: u 153 :: u 154 :: u 155 :: u 156 :: u 157 :: u 158 :: u 159 :: u 160 :: u 161 :: u 162 :: u 163 :: u 164 :: u 165 :: u 166 :: u 167 :: u 168 :: u 169 :: u 170 :: u 171 :: u 172 :: u 173 :: u 174 :: u 175 :: u 176 :: u 177 :: u 178 :: u 179 :: u 180 :: u 181 :: u 182 :: u 183 :: u 184 :: u 185 :: u 186 :: u 187 :: u 188 :: u 189 :: u 190 :: u 191 :: u 192 :: u 193 :: u 194 :: u 195 :: u 196 :: u 197 :: u 198 :: u 199 :: u 200 :: u 201 :: u 202 :: u 203 :: u 204 :: u 205 :: u 206 :: u 207 :: u 208 :: u 209 :: u 210 :: u 211 :: u 212 :: u 213 :: u 214 :: u 215 :: u 216 :: u 217 :: u 218 :: u 219 :: u 220 :: u 221 :: u 222 :: u 223 :: u 224 :: u 225 :: u 226 :: u 227 :: u 228 :: u 229 :: u 230 :: u 231 :: u 232 :: u 233 :: u 234 :: u 235 :: u 236 :: u 237 :: u 238 :: u 239 :: u 240 :: u 241 :: u 242 :: u 243 :: u 244 :: u 245 :: u 246 :: u 247 :: u 248 :: u 249 :: u 250 :: u 251 :: u 252 :: u 253 :: u 254 :: u 255 :: u 256 :: u 257 :: u 258 :: u 259 :: u 260 :: u 261 :: u 262 :: u 263 :: u 264 :: u 265 :: u 266 :: u 267 :: u 268 :: u 269 :: u 270 :: u 271 :: u 272 :: u 273 :: u 274 :: u 275 :: u 276 :: u 277 :: u 278 :: u 279 :: u 280 :: u 281 :: u 282 :: u 283 :: u 284 :: u 285 :: u 286 :: u 287 :: u 288 :: u 289 :: u 290 :: u 291 :: u 292 :: u 293 :: u 294 :: u 295 :: u 296 :: u 297 :: u 298 :: u 299 :: u 300 :: u 301 :: u 302 :: u 303 :: u 304 :: u 305 :: u 306 :: u 307 :: u 308 :: u 309 :: u 310 :: u 311 :: u 312 :: u 313 :: u 314 :: u 315 :: u 316 :: u 317 :: u 318 :: []).toArray, []⟩ := by
  obtain ⟨hn, hd, h5, h7, h11, h70, h71, h72, h87⟩ := h
  obtain ⟨u, hu⟩ : ∃ u : Nat → Value, u = fun k => a.tmps.getD k undef := ⟨_, rfl⟩
  have ha : a = ⟨(u 0 :: u 1 :: u 2 :: u 3 :: u 4 :: u 5 :: u 6 :: u 7 :: u 8 :: u 9 :: u 10 :: u 11 :: u 12 :: u 13 :: u 14 :: u 15 :: u 16 :: u 17 :: u 18 :: u 19 :: u 20 :: u 21 :: u 22 :: u 23 :: u 24 :: u 25 :: u 26 :: u 27 :: u 28 :: u 29 :: u 30 :: u 31 :: u 32 :: u 33 :: u 34 :: u 35 :: u 36 :: u 37 :: u 38 :: u 39 :: u 40 :: u 41 :: u 42 :: u 43 :: u 44 :: u 45 :: u 46 :: u 47 :: u 48 :: u 49 :: u 50 :: u 51 :: u 52 :: u 53 :: u 54 :: u 55 :: u 56 :: u 57 :: u 58 :: u 59 :: u 60 :: u 61 :: u 62 :: u 63 :: u 64 :: u 65 :: u 66 :: u 67 :: u 68 :: u 69 :: u 70 :: u 71 :: u 72 :: u 73 :: u 74 :: u 75 :: u 76 :: u 77 :: u 78 :: u 79 :: u 80 :: u 81 :: u 82 :: u 83 :: u 84 :: u 85 :: u 86 :: u 87 :: u 88 :: u 89 :: u 90 :: u 91 :: u 92 :: u 93 :: u 94 :: u 95 :: u 96 :: u 97 :: u 98 :: u 99 :: u 100 :: u 101 :: u 102 :: u 103 :: u 104 :: u 105 :: u 106 :: u 107 :: u 108 :: u 109 :: u 110 :: u 111 :: u 112 :: u 113 :: u 114 :: u 115 :: u 116 :: u 117 :: u 118 :: u 119 :: u 120 :: u 121 :: u 122 :: u 123 :: u 124 :: u 125 :: u 126 :: u 127 :: u 128 :: u 129 :: u 130 :: u 131 :: u 132 :: u 133 :: u 134 :: u 135 :: u 136 :: u 137 :: u 138 :: u 139 :: u 140 :: u 141 :: u 142 :: u 143 :: u 144 :: u 145 :: u 146 :: u 147 :: u 148 :: u 149 :: u 150 :: u 151 :: u 152 :: u 153 :: u 154 :: u 155 :: u 156 :: u 157 :: u 158 :: u 159 :: u 160 :: u 161 :: u 162 :: u 163 :: u 164 :: u 165 :: u 166 :: u 167 :: u 168 :: u 169 :: u 170 :: u 171 :: u 172 :: u 173 :: u 174 :: u 175 :: u 176 :: u 177 :: u 178 :: u 179 :: u 180 :: u 181 :: u 182 :: u 183 :: u 184 :: u 185 :: u 186 :: u 187 :: u 188 :: u 189 :: u 190 :: u 191 :: u 192 :: u 193 :: u 194 :: u 195 :: u 196 :: u 197 :: u 198 :: u 199 :: u 200 :: u 201 :: u 202 :: u 203 :: u 204 :: u 205 :: u 206 :: u 207 :: u 208 :: u 209 :: u 210 :: u 211 :: u 212 :: u 213 :: u 214 :: u 215 :: u 216 :: u 217 :: u 218 :: u 219 :: u 220 :: u 221 :: u 222 :: u 223 :: u 224 :: u 225 :: u 226 :: u 227 :: u 228 :: u 229 :: u 230 :: u 231 :: u 232 :: u 233 :: u 234 :: u 235 :: u 236 :: u 237 :: u 238 :: u 239 :: u 240 :: u 241 :: u 242 :: u 243 :: u 244 :: u 245 :: u 246 :: u 247 :: u 248 :: u 249 :: u 250 :: u 251 :: u 252 :: u 253 :: u 254 :: u 255 :: u 256 :: u 257 :: u 258 :: u 259 :: u 260 :: u 261 :: u 262 :: u 263 :: u 264 :: u 265 :: u 266 :: u 267 :: u 268 :: u 269 :: u 270 :: u 271 :: u 272 :: u 273 :: u 274 :: u 275 :: u 276 :: u 277 :: u 278 :: u 279 :: u 280 :: u 281 :: u 282 :: u 283 :: u 284 :: u 285 :: u 286 :: u 287 :: u 288 :: u 289 :: u 290 :: u 291 :: u 292 :: u 293 :: u 294 :: u 295 :: u 296 :: u 297 :: u 298 :: u 299 :: u 300 :: u 301 :: u 302 :: u 303 :: u 304 :: u 305 :: u 306 :: u 307 :: u 308 :: u 309 :: u 310 :: u 311 :: u 312 :: u 313 :: u 314 :: u 315 :: u 316 :: u 317 :: u 318 :: []).toArray, a.defers⟩ := by
    rw [hu]; exact frame_eq hn
  have e5 : u 5 = _ := (congrFun hu 5).trans h5
  have e7 : u 7 = _ := (congrFun hu 7).trans h7
  have e11 : u 11 = _ := (congrFun hu 11).trans h11
  have e70 : u 70 = _ := (congrFun hu 70).trans h70
  have e71 : u 71 = _ := (congrFun hu 71).trans h71
  have e72 : u 72 = _ := (congrFun hu 72).trans h72
  have e87 : u 87 = _ := (congrFun hu 87).trans h87
  rw [e5, e7, e11, e70, e71, e72, e87, hd] at ha
  exact ⟨u, ha⟩

/-- .. at its end. -/
structure FrD (v5 : Value) (g : Nat) (v70 : Value) (n i : Int) (v317 : Value) (a : Act) : Prop where
  size : a.tmps.size = 319
  defers : a.defers = []
  t5 : a.tmps.getD 5 undef = v5
  t7 : a.tmps.getD 7 undef = .pointer (some ⟨g, 0, none⟩)
  t70 : a.tmps.getD 70 undef = v70
  t71 : a.tmps.getD 71 undef = .int .i64 n
  t72 : a.tmps.getD 72 undef = .int .i64 i
  t317 : a.tmps.getD 317 undef = v317

theorem FrD.open_ {v5 : Value} {g : Nat} {v70 : Value} {n i : Int} {v317 : Value} {a : Act} (h : FrD v5 g v70 n i v317 a) : ∃ u : Nat → Value, a = ⟨(u 0 :: u 1 :: u 2 :: u 3 :: u 4 :: v5 :: u 6 :: .pointer (some ⟨g, 0, none⟩) :: u 8 :: u 9 :: u 10 :: u 11 :: u 12 :: u 13 :: u 14 :: u 15 :: u 16 :: u 17 :: u 18 :: u 19 :: u 20 :: u 21 :: u 22 :: u 23 :: u 24 :: u 25 :: u 26 :: u 27 :: u 28 :: u 29 :: u 30 :: u 31 :: u 32 :: u 33 :: u 34 :: u 35 :: u 36 :: u 37 :: u 38 :: u 39 :: u 40 :: u 41 :: u 42 :: u 43 :: u 44 :: u 45 :: u 46 :: u 47 :: u 48 :: u 49 :: u 50 :: u 51 :: u 52 :: u 53 :: u 54 :: u 55 :: u 56 :: u 57 :: u 58 :: u 59 :: u 60 :: u 61 :: u 62 :: u 63 :: u 64 :: u 65 :: u 66 :: u 67 :: u 68 :: u 69 :: v70 :: .int .i64 n :: .int .i64 i :: u 73 :: u 74 :: u 75 :: u 76 :: u 77 :: u 78 :: u 79 :: u 80 :: u 81 :: u 82 :: u 83 :: u 84 :: u 85 :: u 86 :: u 87 :: u 88 :: u 89 :: u 90 :: u 91 :: u 92 :: u 93 :: u 94 :: u 95 :: u 96 :: u 97 :: u 98 :: u 99 :: u 100 :: u 101 :: u 102 :: u 103 :: u 104 :: u 105 :: u 106 :: u 107 :: u 108 :: u 109 :: u 110 :: u 111 :: u 112 :: u 113 :: u 114 :: u 115 :: u 116 :: u 117 :: u 118 :: u 119 :: u 120 :: u 121 :: u 122 :: u 123 :: u 124 :: u 125 :: u 126 :: u 127 :: u 128 :: u 129 :: u 130 :: u 131 :: u 132 :: u 133 :: u 134 :: u 135 :: u 136 :: u 137 :: u 138 :: u 139 :: u 140 :: u 141 :: u 142 :: u 143 :: u 144 :: u 145 :: u 146 :: u 147 :: u 148 :: u 149 :: u 150 :: u 151 :: u 152 :: u 153 :: u 154 :: u 155 :: u 156 :: u 157 :: u 158 :: u 159 :: u 160 :: u 161 :: u 162 :: u 163 :: u 164 :: u 165 :: u 166 :: u 167 :: u 168 :: u 169 :: u 170 :: u 171 :: u 172 :: u 173 :: u 174 :: u 175 :: u 176 :: u 177 :: u 178 :: u 179 :: u 180 :: u 181 :: u 182 :: u 183 :: u 184 :: u 185 :: u 186 :: u 187 :: u 188 :: u 189 :: u 190 :: u 191 :: u 192 :: u 193 :: u 194 :: u 195 :: u 196 :: u 197 :: u 198 :: u 199 :: u 200 :: u 201 :: u 202 :: u 203 :: u 204 :: u 205 :: u 206 :: u 207 :: u 208 :: u 209 :: u 210 :: u 211 :: u 212 :: u 213 :: u 214 :: u 215 :: u 216 :: u 217 :: u 218 :: u 219 :: u 220 :: u 221 :: u 222 :: u 223 :: u 224 :: u 225 :: u 226 :: u 227 :: u 228 :: u 229 :: u 230 :: u 231 :: u 232 :: u 233 :: u 234 :: u 235 :: u 236 :: u 237 :: u 238 :: u 239 :: u 240 :: u 241 :: u 242 :: u 243 :: u 244 :: u 245 :: u 246 :: u 247 :: u 248 :: u 249 :: u 250 :: u 251 :: u 252 :: u 253 :: u 254 :: u 255 :: u 256 :: u 257 :: u 258 :: u 259 :: u 260 :: u 261 :: u 262 :: u 263 :: u 264 :: u 265 :: u 266 :: u 267 :: u 268 :: u 269 :: u 270 :: u 271 :: u 272 :: u 273 :: u 274 :: u 275 :: u 276 :: u 277 :: u 278 :: u 279 :: u 280 :: u 281 :: u 282 :: u 283 :: u 284 :: u 285 :: u 286 :: u 287 :: u 288 :: u 289 :: u 290 :: u 291 :: u 292 :: u 293 :: u 294 :: u 295 :: u 296 :: u 297 :: u 298 :: u 299 :: u 300 :: u 301 :: u 302 :: u 303 :: u 304 :: u 305 :: u 306 :: u 307 :: u 308 :: u 309 :: u 310 :: u 311 :: u 312 :: u 313 :: u 314 :: u 315 :: u 316 :: v317 :: u 318 :: []).toArray, []⟩ := by
  obtain ⟨hn, hd, h5, h7, h70, h71, h72, h317⟩ := h
  obtain ⟨u, hu⟩ : ∃ u : Nat → Value, u = fun k => a.tmps.getD k undef := ⟨_, rfl⟩
  have ha : a = ⟨(u 0 :: u 1 :: u 2 :: u 3 :: u 4 :: u 5 :: u 6 :: u 7 :: u 8 :: u 9 :: u 10 :: u 11 :: u 12 :: u 13 :: u 14 :: u 15 :: u 16 :: u 17 :: u 18 :: u 19 :: u 20 :: u 21 :: u 22 :: u 23 :: u 24 :: u 25 :: u 26 :: u 27 :: u 28 :: u 29 :: u 30 :: u 31 :: u 32 :: u 33 :: u 34 :: u 35 :: u 36 :: u 37 :: u 38 :: u 39 :: u 40 :: u 41 :: u 42 :: u 43 :: u 44 :: u 45 :: u 46 :: u 47 :: u 48 :: u 49 :: u 50 :: u 51 :: u 52 :: u 53 :: u 54 :: u 55 :: u 56 :: u 57 :: u 58 :: u 59 :: u 60 :: u 61 :: u 62 :: u 63 :: u 64 :: u 65 :: u 66 :: u 67 :: u 68 :: u 69 :: u 70 :: u 71 :: u 72 :: u 73 :: u 74 :: u 75 :: u 76 :: u 77 :: u 78 :: u 79 :: u 80 :: u 81 :: u 82 :: u 83 :: u 84 :: u 85 :: u 86 :: u 87 :: u 88 :: u 89 :: u 90 :: u 91 :: u 92 :: u 93 :: u 94 :: u 95 :: u 96 :: u 97 :: u 98 :: u 99 :: u 100 :: u 101 :: u 102 :: u 103 :: u 104 :: u 105 :: u 106 :: u 107 :: u 108 :: u 109 :: u 110 :: u 111 :: u 112 :: u 113 :: u 114 :: u 115 :: u 116 :: u 117 :: u 118 :: u 119 :: u 120 :: u 121 :: u 122 :: u 123 :: u 124 :: u 125 :: u 126 :: u 127 :: u 128 :: u 129 :: u 130 :: u 131 :: u 132 :: u 133 :: u 134 :: u 135 :: u 136 :: u 137 :: u 138 :: u 139 :: u 140 :: u 141 :: u 142 :: u 143 :: u 144 :: u 145 :: u 146 :: u 147 :: u 148 :: u 149 :: u 150 :: u 151 :: u 152 :: u 153 :: u 154 :: u 155 :: u 156 :: u 157 :: u 158 :: u 159 :: u 160 :: u 161 :: u 162 :: u 163 :: u 164 :: u 165 :: u 166 :: u 167 :: u 168 :: u 169 :: u 170 :: u 171 :: u 172 :: u 173 :: u 174 :: u 175 :: u 176 :: u 177 :: u 178 :: u 179 :: u 180 :: u 181 :: u 182 :: u 183 :: u 184 :: u 185 :: u 186 :: u 187 :: u 188 :: u 189 :: u 190 :: u 191 :: u 192 :: u 193 :: u 194 :: u 195 :: u 196 :: u 197 :: u 198 :: u 199 :: u 200 :: u 201 :: u 202 :: u 203 :: u 204 :: u 205 :: u 206 :: u 207 :: u 208 :: u 209 :: u 210 :: u 211 :: u 212 :: u 213 :: u 214 :: u 215 :: u 216 :: u 217 :: u 218 :: u 219 :: u 220 :: u 221 :: u 222 :: u 223 :: u 224 :: u 225 :: u 226 :: u 227 :: u 228 :: u 229 :: u 230 :: u 231 :: u 232 :: u 233 :: u 234 :: u 235 :: u 236 :: u 237 :: u 238 :: u 239 :: u 240 :: u 241 :: u 242 :: u 243 :: u 244 :: u 245 :: u 246 :: u 247 :: u 248 :: u 249 :: u 250 :: u 251 :: u 252 :: u 253 :: u 254 :: u 255 :: u 256 :: u 257 :: u 258 :: u 259 :: u 260 :: u 261 :: u 262 :: u 263 :: u 264 :: u 265 :: u 266 :: u 267 :: u 268 :: u 269 :: u 270 :: u 271 :: u 272 :: u 273 :: u 274 :: u 275 :: u 276 :: u 277 :: u 278 :: u 279 :: u 280 :: u 281 :: u 282 :: u 283 :: u 284 :: u 285 :: u 286 :: u 287 :: u 288 :: u 289 :: u 290 :: u 291 :: u 292 :: u 293 :: u 294 :: u 295 :: u 296 :: u 297 :: u 298 :: u 299 :: u 300 :: u 301 :: u 302 :: u 303 :: u 304 :: u 305 :: u 306 :: u 307 :: u 308 :: u 309 :: u 310 :: u 311 :: u 312 :: u 313 :: u 314 :: u 315 :: u 316 :: u 317 :: u 318 :: []).toArray, a.defers⟩ := by
    rw [hu]; exact frame_eq hn
  have e5 : u 5 = _ := (congrFun hu 5).trans h5
  have e7 : u 7 = _ := (congrFun hu 7).trans h7
  have e70 : u 70 = _ := (congrFun hu 70).trans h70
  have e71 : u 71 = _ := (congrFun hu 71).trans h71
  have e72 : u 72 = _ := (congrFun hu 72).trans h72
  have e317 : u 317 = _ := (congrFun hu 317).trans h317
  rw [e5, e7, e70, e71, e72, e317, hd] at ha
  exact ⟨u, ha⟩

/-- What is kept: the table, the document's, what came in. -/
structure PlS (w : World) (g tb : Nat) (m : Option Nat) (Dt Dd : CTab) (wr : World) : Prop where
  tab : TabN w.heap.size wr tb m Dt
  doc : DTab wr g Dd
  ng : tb ≠ g
  mg : m ≠ some g
  hg : w.heap.size ≤ g
  bel : Below w.heap.size w wr

section
variable {w wr w' : World} {g tb : Nat} {m : Option Nat} {Dt Dd : CTab}

theorem PlS.below (h : PlS w g tb m Dt Dd wr) (hb : Below wr.heap.size wr w') : PlS w g tb m Dt Dd w' :=
  ⟨h.tab.below hb, h.doc.below hb, h.ng, h.mg, h.hg, h.bel.trans (hb.mono h.bel.size)⟩

theorem PlS.put (h : PlS w g tb m Dt Dd wr) {D' : CTab} (hd : DTab w' g D') (hg : wr.grownBy w' (some g)) : PlS w g tb m Dt D' w' :=
  ⟨⟨h.tab.at_.grown hg h.ng.symm h.mg, h.tab.le, h.tab.mle⟩, hd, h.ng, h.mg, h.hg, h.bel.grown hg h.bel.size (fun k hk => by injection hk with hk; have := h.hg; omega)⟩

theorem PlS.foot_ne (h : PlS w g tb m Dt Dd wr) : foot tb m ≠ g := by
  cases m with
  | none => exact h.ng
  | some b => exact fun e => h.mg (by rw [← e]; rfl)

theorem PlS.turn (h : PlS w g tb m Dt Dd wr) {m' : Option Nat} {D' : CTab} (ht : TabAt w' tb m' D') (hgr : wr.grownBy w' (some (foot tb m))) (hm : m' = m ∨ (m = none ∧ ∃ b, m' = some b ∧ wr.heap.size ≤ b)) : PlS w g tb m' D' Dd w' := by
  obtain ⟨hn, hb⟩ := h.tab.of_set ht hgr hm
  refine ⟨hn, h.doc.grown hgr h.foot_ne, h.ng, ?_, h.hg, h.bel.trans hb⟩
  rcases hm with rfl | ⟨_, b, rfl, hb⟩
  · exact h.mg
  · intro e
    injection e with e
    have := h.doc.lt
    omega

/-- A new table beside the old one. -/
theorem PlS.copy (h : PlS w g tb m Dt Dd wr) {tb' : Nat} {m' : Option Nat} {D' : CTab} (ht : TabN wr.heap.size w' tb' m' D') (hb : Below wr.heap.size wr w') : PlS w g tb' m' D' Dd w' := by
  have h1 := ht.le
  have h2 := h.doc.lt
  refine ⟨ht.mono h.bel.size, h.doc.below hb, by omega, fun e => ?_, h.hg, h.bel.trans (hb.mono h.bel.size)⟩
  have := ht.mle g e
  omega

end

/-- An operation's box. -/
structure BxO (w : World) (g : Nat) (vp vl : Value) (y : OpT) : Prop where
  lt : g < w.heap.size
  k : w.cell? ⟨g, 0, none⟩ = some (.int .i64 y.k)
  x0 : w.cell? ⟨g, 1, none⟩ = some (.int .i64 y.x.1.1)
  x1 : w.cell? ⟨g, 2, none⟩ = some (.int .i64 y.x.1.2)
  x2 : w.cell? ⟨g, 3, none⟩ = some (.int .i64 y.x.2.1.1)
  x3 : w.cell? ⟨g, 4, none⟩ = some (.int .i64 y.x.2.1.2)
  x4 : w.cell? ⟨g, 5, none⟩ = some (.int .i64 y.x.2.2.1)
  x5 : w.cell? ⟨g, 6, none⟩ = some (.int .i64 y.x.2.2.2)
  p : w.cell? ⟨g, 7, none⟩ = some vp
  r0 : w.cell? ⟨g, 8, none⟩ = some (.int .i64 y.r.1)
  r1 : w.cell? ⟨g, 9, none⟩ = some (.int .i64 y.r.2.1)
  r2 : w.cell? ⟨g, 10, none⟩ = some (.int .i64 y.r.2.2)
  l : w.cell? ⟨g, 11, none⟩ = some vl

theorem BxO.keep {w w' : World} {g : Nat} {vp vl : Value} {y : OpT} (h : BxO w g vp vl y) (hk : w'.heap[g]? = w.heap[g]?) (hs : w.heap.size ≤ w'.heap.size) : BxO w' g vp vl y := by
  have c := fun o => World.cell?_of_block (a := ⟨g, o, none⟩) hk
  exact ⟨Nat.lt_of_lt_of_le h.lt hs, (c _).trans h.k, (c _).trans h.x0, (c _).trans h.x1, (c _).trans h.x2, (c _).trans h.x3, (c _).trans h.x4, (c _).trans h.x5, (c _).trans h.p, (c _).trans h.r0, (c _).trans h.r1, (c _).trans h.r2, (c _).trans h.l⟩

theorem BxO.below {w w' : World} {g : Nat} {vp vl : Value} {y : OpT} (h : BxO w g vp vl y) (hb : Below w.heap.size w w') : BxO w' g vp vl y := h.keep (hb.block g h.lt) hb.size

theorem BxO.grown {w w' : World} {g r : Nat} {vp vl : Value} {y : OpT} (h : BxO w g vp vl y) (hb : w.grownBy w' (some r)) (hr : r ≠ g) : BxO w' g vp vl y :=
  h.keep (hb.block g h.lt (fun e => hr (by injection e with e; exact e.symm))) hb.size

theorem boxO (w : World) (k n key a b c d rk rx ry : Int) (vp vl : Value) (p : List (Int × Int)) (l : List Int) (t : TypeId) : ∃ W : World, w.alloc (.cells #[.int .i64 k, .int .i64 n, .int .i64 key, .int .i64 a, .int .i64 b, .int .i64 c, .int .i64 d, vp, .int .i64 rk, .int .i64 rx, .int .i64 ry, vl] t) = W ∧ Hid (Below w.heap.size w W) ∧ Hid (BxO W w.heap.size vp vl ⟨k, ((n, key), ((a, b), (c, d))), p, (rk, (rx, ry)), l⟩) :=
  ⟨_, rfl, hid ((Below.refl _ w).alloc (Nat.le_refl _) _), hid ⟨by simp, by simp [World.cell?_alloc_new], by simp [World.cell?_alloc_new], by simp [World.cell?_alloc_new], by simp [World.cell?_alloc_new], by simp [World.cell?_alloc_new], by simp [World.cell?_alloc_new], by simp [World.cell?_alloc_new], by simp [World.cell?_alloc_new], by simp [World.cell?_alloc_new], by simp [World.cell?_alloc_new], by simp [World.cell?_alloc_new], by simp [World.cell?_alloc_new]⟩⟩

theorem op_of {y : OpT} : ∃ k n key a b c d rk rx ry p l, y = ⟨k, ((n, key), ((a, b), (c, d))), p, (rk, (rx, ry)), l⟩ := by
  obtain ⟨k, ⟨⟨n, key⟩, ⟨a, b⟩, ⟨c, d⟩⟩, p, ⟨rk, rx, ry⟩, l⟩ := y
  exact ⟨k, n, key, a, b, c, d, rk, rx, ry, p, l, rfl⟩

/-- In the second. -/
def RIb (w : World) (g : Nat) (v70 : Value) (n : Nat) (gk : Nat) (a : Act) (wr : World) : Prop :=
  ∃ (j tb : Nat) (m : Option Nat) (D : CTab), FrB (tabV tb) g v70 (n : Int) (j : Int) a ∧ j ≤ n ∧ Hid (PlS w g tb m D D wr) ∧ n - j ≤ gk

theorem cut_b {P : Program} {K1 : Act → World → Prop} {Q2 : Exit → Act → World → Prop} {c : Code} {a0 : Act} {w0 : World} (H : Act → World → Prop) (h1 : ∀ a w, H a w → Q2 .normal a w) (h2 : (∀ a w, H a w → Q2 .normal a w) → c.wp P (Exit.then K1 Q2) a0 w0) : c.wp P (Exit.then K1 Q2) a0 w0 := h2 h1

/-- What the switch leaves. -/
def PlyH (w : World) (g gb : Nat) (v70 : Value) (n i k : Int) (vp vl : Value) (y : OpT) (a : Act) (w' : World) : Prop :=
  ∃ (tb : Nat) (m : Option Nat) (D : CTab), FrC (tabV tb) g gb v70 n i k a ∧ Hid (PlS w g tb m D D w') ∧ Hid (BxO w' gb vp vl y)

/-- What an operation begins with. -/
structure PlyI (w : World) (g gb tb : Nat) (m : Option Nat) (D : CTab) (vp vl : Value) (y : OpT) (wX : World) : Prop where
  pl : PlS w g tb m D D wX
  bx : BxO wX gb vp vl y
  ng : gb ≠ g
  nt : gb ≠ tb
  nm : m ≠ some gb
  p : SlV w w.heap.size vp y.p
  l : SlI w w.heap.size .i64 vl y.l
  np : y.p.length ≤ 24
  nl : y.l.length ≤ 20
  o : OpI y

theorem PlyI.foot_ne {w wX : World} {g gb tb : Nat} {m : Option Nat} {D : CTab} {vp vl : Value} {y : OpT} (h : PlyI w g gb tb m D vp vl y wX) : foot tb m ≠ gb := by
  cases m with
  | none => exact h.nt.symm
  | some b => exact fun e => h.nm (by rw [← e]; rfl)

end Go.Proofs.YtfhlpbjdcdagjaaGreatDoor
