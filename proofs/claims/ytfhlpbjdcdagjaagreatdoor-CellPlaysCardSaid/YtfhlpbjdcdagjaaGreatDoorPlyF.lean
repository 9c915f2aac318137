/- Layer 7, cell: CellPlays: Of. -/
import Derived.Test.YtfhlpbjdcdagjaaGreatDoorHbd
namespace Go.Proofs.YtfhlpbjdcdagjaaGreatDoor
open Go.RowKit Go.Lib Go.MapKept
open Go.Sort (grow)
set_option linter.unusedVariables false
set_option maxRecDepth 100000

structure FrF (v5 : Value) (g gb : Nat) (v70 : Value) (n i k : Int) (v17 v237 : Value) (n238 t : Int) (a : Act) : Prop where
  size : a.tmps.size = 319
  defers : a.defers = []
  t5 : a.tmps.getD 5 undef = v5
  t7 : a.tmps.getD 7 undef = .pointer (some ⟨g, 0, none⟩)
  t11 : a.tmps.getD 11 undef = .pointer (some ⟨gb, 0, none⟩)
  t17 : a.tmps.getD 17 undef = v17
  t70 : a.tmps.getD 70 undef = v70
  t71 : a.tmps.getD 71 undef = .int .i64 n
  t72 : a.tmps.getD 72 undef = .int .i64 i
  t87 : a.tmps.getD 87 undef = .int .i64 k
  t237 : a.tmps.getD 237 undef = v237
  t238 : a.tmps.getD 238 undef = .int .i64 n238
  t239 : a.tmps.getD 239 undef = .int .i64 t

theorem FrF.open_ {v5 : Value} {g gb : Nat} {v70 : Value} {n i k : Int} {v17 v237 : Value} {n238 t : Int} {a : Act} (h : FrF v5 g gb v70 n i k v17 v237 n238 t a) : ∃ u : Nat → Value, a = ⟨(u 0 :: u 1 :: u 2 :: u 3 :: u 4 :: v5 :: u 6 :: .pointer (some ⟨g, 0, none⟩) :: u 8 :: u 9 :: u 10 :: .pointer (some ⟨gb, 0, none⟩) :: u 12 :: u 13 :: u 14 :: u 15 :: u 16 :: v17 :: u 18 :: u 19 :: u 20 :: u 21 :: u 22 :: u 23 :: u 24 :: u 25 :: u 26 :: u 27 :: u 28 :: u 29 :: u 30 :: u 31 :: u 32 :: u 33 :: u 34 :: u 35 :: u 36 :: u 37 :: u 38 :: u 39 :: u 40 :: u 41 :: u 42 :: u 43 :: u 44 :: u 45 :: u 46 :: u 47 :: u 48 :: u 49 :: u 50 :: u 51 :: u 52 :: u 53 :: u 54 :: u 55 :: u 56 :: u 57 :: u 58 :: u 59 :: u 60 :: u 61 :: u 62 :: u 63 :: u 64 :: u 65 :: u 66 :: u 67 :: u 68 :: u 69 :: v70 :: .int .i64 n :: .int .i64 i :: u 73 :: u 74 :: u 75 :: u 76 :: u 77 :: u 78 :: u 79 :: u 80 :: u 81 :: u 82 :: u 83 :: u 84 :: u 85 :: u 86 :: .int .i64 k :: u 88 :: u 89 :: u 90 :: u 91 :: u 92 :: u 93 :: u 94 :: u 95 :: u 96 :: u 97 :: u 98 :: u 99 :: u 100 :: u 101 :: u 102 :: u 103 :: u 104 :: u 105 :: u 106 :: u 107 :: u 108 :: u 109 :: u 110 :: u 111 :: u 112 :: u 113 :: u 114 :: u 115 :: u 116 :: u 117 :: u 118 :: u 119 :: u 120 :: u 121 :: u 122 :: u 123 :: u 124 :: u 125 :: u 126 :: u 127 :: u 128 :: u 129 :: u 130 :: u 131 :: u 132 :: u 133 :: u 134 :: u 135 :: u 136 :: u 137 :: u 138 :: u 139 :: u 140 :: u 141 :: u 142 :: u 143 :: u 144 :: u 145 :: u 146 :: u 147 :: u 148 :: u 149 :: u 150 :: u 151 :: u 152 :: u 153 :: u 154 :: u 155 :: u 156 :: u 157 :: u 158 :: u 159 :: u 160 :: u 161 :: u 162 :: u 163 :: u 164 :: u 165 :: u 166 :: u 167 :: u 168 :: u 169 :: u 170 :: u 171 :: u 172 :: u 173 :: u 174 :: u 175 :: u 176 :: u 177 :: u 178 :: u 179 :: u 180 :: u 181 :: u 182 :: u 183 :: u 184 :: u 185 :: u 186 :: u 187 :: u 188 :: u 189 :: u 190 :: u 191 :: u 192 :: u 193 :: u 194 :: u 195 :: u 196 :: u 197 :: u 198 :: u 199 :: u 200 :: u 201 :: u 202 :: u 203 :: u 204 :: u 205 :: u 206 :: u 207 :: u 208 :: u 209 :: u 210 :: u 211 :: u 212 :: u 213 :: u 214 :: u 215 :: u 216 :: u 217 :: u 218 :: u 219 :: u 220 :: u 221 :: u 222 :: u 223 :: u 224 :: u 225 :: u 226 :: u 227 :: u 228 :: u 229 :: u 230 :: u 231 :: u 232 :: u 233 :: u 234 :: u 235 :: u 236 :: v237 :: .int .i64 n238 :: .int .i64 t :: u 240 :: u 241 :: u 242 :: u 243 :: u 244 :: u 245 :: u 246 :: u 247 :: u 248 :: u 249 :: u 250 :: u 251 :: u 252 :: u 253 :: u 254 :: u 255 :: u 256 :: u 257 :: u 258 :: u 259 :: u 260 :: u 261 :: u 262 :: u 263 :: u 264 :: u 265 :: u 266 :: u 267 :: u 268 :: u 269 :: u 270 :: u 271 :: u 272 :: u 273 :: u 274 :: u 275 :: u 276 :: u 277 :: u 278 :: u 279 :: u 280 :: u 281 :: u 282 :: u 283 :: u 284 :: u 285 :: u 286 :: u 287 :: u 288 :: u 289 :: u 290 :: u 291 :: u 292 :: u 293 :: u 294 :: u 295 :: u 296 :: u 297 :: u 298 :: u 299 :: u 300 :: u 301 :: u 302 :: u 303 :: u 304 :: u 305 :: u 306 :: u 307 :: u 308 :: u 309 :: u 310 :: u 311 :: u 312 :: u 313 :: u 314 :: u 315 :: u 316 :: u 317 :: u 318 :: []).toArray, []⟩ := by
  obtain ⟨hn, hd, h5, h7, h11, h17, h70, h71, h72, h87, h237, h238, h239⟩ := h
  obtain ⟨u, hu⟩ : ∃ u : Nat → Value, u = fun k => a.tmps.getD k undef := ⟨_, rfl⟩
  have ha : a = ⟨(u 0 :: u 1 :: u 2 :: u 3 :: u 4 :: u 5 :: u 6 :: u 7 :: u 8 :: u 9 :: u 10 :: u 11 :: u 12 :: u 13 :: u 14 :: u 15 :: u 16 :: u 17 :: u 18 :: u 19 :: u 20 :: u 21 :: u 22 :: u 23 :: u 24 :: u 25 :: u 26 :: u 27 :: u 28 :: u 29 :: u 30 :: u 31 :: u 32 :: u 33 :: u 34 :: u 35 :: u 36 :: u 37 :: u 38 :: u 39 :: u 40 :: u 41 :: u 42 :: u 43 :: u 44 :: u 45 :: u 46 :: u 47 :: u 48 :: u 49 :: u 50 :: u 51 :: u 52 :: u 53 :: u 54 :: u 55 :: u 56 :: u 57 :: u 58 :: u 59 :: u 60 :: u 61 :: u 62 :: u 63 :: u 64 :: u 65 :: u 66 :: u 67 :: u 68 :: u 69 :: u 70 :: u 71 :: u 72 :: u 73 :: u 74 :: u 75 :: u 76 :: u 77 :: u 78 :: u 79 :: u 80 :: u 81 :: u 82 :: u 83 :: u 84 :: u 85 :: u 86 :: u 87 :: u 88 :: u 89 :: u 90 :: u 91 :: u 92 :: u 93 :: u 94 :: u 95 :: u 96 :: u 97 :: u 98 :: u 99 :: u 100 :: u 101 :: u 102 :: u 103 :: u 104 :: u 105 :: u 106 :: u 107 :: u 108 :: u 109 :: u 110 :: u 111 :: u 112 :: u 113 :: u 114 :: u 115 :: u 116 :: u 117 :: u 118 :: u 119 :: u 120 :: u 121 :: u 122 :: u 123 :: u 124 :: u 125 :: u 126 :: u 127 :: u 128 :: u 129 :: u 130 :: u 131 :: u 132 :: u 133 :: u 134 :: u 135 :: u 136 :: u 137 :: u 138 :: u 139 :: u 140 :: u 141 :: u 142 :: u 143 :: u 144 :: u 145 :: u 146 :: u 147 :: u 148 :: u 149 :: u 150 :: u 151 :: u 152 :: u 153 :: u 154 :: u 155 :: u 156 :: u 157 :: u 158 :: u 159 :: u 160 :: u 161 :: u 162 :: u 163 :: u 164 :: u 165 :: u 166 :: u 167 :: u 168 :: u 169 :: u 170 :: u 171 :: u 172 :: u 173 :: u 174 :: u 175 :: u 176 :: u 177 :: u 178 :: u 179 :: u 180 :: u 181 :: u 182 :: u 183 :: u 184 :: u 185 :: u 186 :: u 187 :: u 188 :: u 189 :: u 190 :: u 191 :: u 192 :: u 193 :: u 194 :: u 195 :: u 196 :: u 197 :: u 198 :: u 199 :: u 200 :: u 201 :: u 202 :: u 203 :: u 204 :: u 205 :: u 206 :: u 207 :: u 208 :: u 209 :: u 210 :: u 211 :: u 212 :: u 213 :: u 214 :: u 215 :: u 216 :: u 217 :: u 218 :: u 219 :: u 220 :: u 221 :: u 222 :: u 223 :: u 224 :: u 225 :: u 226 :: u 227 :: u 228 :: u 229 :: u 230 :: u 231 :: u 232 :: u 233 :: u 234 :: u 235 :: u 236 :: u 237 :: u 238 :: u 239 :: u 240 :: u 241 :: u 242 :: u 243 :: u 244 :: u 245 :: u 246 :: u 247 :: u 248 :: u 249 :: u 250 :: u 251 :: u 252 :: u 253 :: u 254 :: u 255 :: u 256 :: u 257 :: u 258 :: u 259 :: u 260 :: u 261 :: u 262 :: u 263 :: u 264 :: u 265 :: u 266 :: u 267 :: u 268 :: u 269 :: u 270 :: u 271 :: u 272 :: u 273 :: u 274 :: u 275 :: u 276 :: u 277 :: u 278 :: u 279 :: u 280 :: u 281 :: u 282 :: u 283 :: u 284 :: u 285 :: u 286 :: u 287 :: u 288 :: u 289 :: u 290 :: u 291 :: u 292 :: u 293 :: u 294 :: u 295 :: u 296 :: u 297 :: u 298 :: u 299 :: u 300 :: u 301 :: u 302 :: u 303 :: u 304 :: u 305 :: u 306 :: u 307 :: u 308 :: u 309 :: u 310 :: u 311 :: u 312 :: u 313 :: u 314 :: u 315 :: u 316 :: u 317 :: u 318 :: []).toArray, a.defers⟩ := by
    rw [hu]; exact frame_eq hn
  have e5 : u 5 = _ := (congrFun hu 5).trans h5
  have e7 : u 7 = _ := (congrFun hu 7).trans h7
  have e11 : u 11 = _ := (congrFun hu 11).trans h11
  have e17 : u 17 = _ := (congrFun hu 17).trans h17
  have e70 : u 70 = _ := (congrFun hu 70).trans h70
  have e71 : u 71 = _ := (congrFun hu 71).trans h71
  have e72 : u 72 = _ := (congrFun hu 72).trans h72
  have e87 : u 87 = _ := (congrFun hu 87).trans h87
  have e237 : u 237 = _ := (congrFun hu 237).trans h237
  have e238 : u 238 = _ := (congrFun hu 238).trans h238
  have e239 : u 239 = _ := (congrFun hu 239).trans h239
  rw [e5, e7, e11, e17, e70, e71, e72, e87, e237, e238, e239, hd] at ha
  exact ⟨u, ha⟩

theorem ents_filter (D : CTab) (S : Int × Int → Bool) : (ents D fun _ => true).filter (fun x => S x.1) = ents D S := by
  unfold ents entsTo
  rw [List.filter_flatMap]
  congr 1
  funext i
  unfold entAt
  by_cases h : D (plc i).1 (plc i).2 ≠ z4
  · rw [if_pos ⟨h, rfl⟩]
    cases hs : S (plc i) with
    | true => rw [if_pos ⟨h, rfl⟩]; simp [hs]
    | false => rw [if_neg (fun q => by cases q.2)]; simp [hs]
  · rw [if_neg (fun q => h q.1), if_neg (fun q => h q.1)]
    rfl

def filt (S : Int × Int → Bool) (L : List Ent) (j : Nat) : List Ent := (L.take j).filter fun x => S x.1

theorem filt_yes {S : Int × Int → Bool} {L : List Ent} {j : Nat} (hj : j < L.length) {x : Ent} (hx : L.getD j e0 = x) (h : S x.1 = true) : filt S L (j + 1) = filt S L j ++ [x] := by
  unfold filt
  rw [List.getD_eq_getElem?_getD, List.getElem?_eq_getElem hj] at hx
  simp only [Option.getD_some] at hx
  rw [List.take_succ_eq_append_getElem hj, List.filter_append, hx]
  simp [h]

theorem filt_no {S : Int × Int → Bool} {L : List Ent} {j : Nat} (hj : j < L.length) {x : Ent} (hx : L.getD j e0 = x) (h : S x.1 = false) : filt S L (j + 1) = filt S L j := by
  unfold filt
  rw [List.getD_eq_getElem?_getD, List.getElem?_eq_getElem hj] at hx
  simp only [Option.getD_some] at hx
  rw [List.take_succ_eq_append_getElem hj, List.filter_append, hx]
  simp [h]

theorem small_max {a : Nat} (h : a ≤ 600) : a + 1 ≤ maxLen ∧ (a + 1) * 48 ≤ 140737488355328 := by unfold maxLen; omega

theorem filt_len (S : Int × Int → Bool) (L : List Ent) (j : Nat) : (filt S L j).length ≤ j :=
  Nat.le_trans (List.length_filter_le _ _) (by rw [List.length_take]; omega)

def RIf (w1 : World) (g gb tb : Nat) (v70 : Value) (N i : Int) (S : Int × Int → Bool) (v237 : Value) (L : List Ent) (gk : Nat) (a : Act) (wr : World) : Prop :=
  ∃ (jj : Nat) (A : Option Addr) (c : Nat), FrF (tabV tb) g gb v70 N i 3 (.slice A (filt S L jj).length c) v237 (L.length : Int) (jj : Int) a ∧ jj ≤ L.length ∧ Hid (wr.ownsRow w1.heap.size 37 6 (.slice A (filt S L jj).length c) (filt S L jj).length (entCells (filt S L jj))) ∧ Hid (Below w1.heap.size w1 wr) ∧ L.length - jj ≤ gk

set_option maxHeartbeats 1000000 in
theorem play_3 (w : World) (g gb tb : Nat) (m : Option Nat) (D : CTab) (vp vl v70 : Value) (N i n key xa xb xc xd rk rx ry : Int) (p : List (Int × Int)) (l : List Int) (act : Act) (wX : World) (HI : Hid (PlyI w g gb tb m D vp vl ⟨3, ((n, key), ((xa, xb), (xc, xd))), p, (rk, (rx, ry)), l⟩ wX)) (hfr : FrC (tabV tb) g gb v70 N i 3 act)
    (KA K4 K2 K3 : Act → World → Prop) (HE : Hid (∀ a w', PlyH w g gb v70 N i 3 vp vl ⟨3, ((n, key), ((xa, xb), (xc, xd))), p, (rk, (rx, ry)), l⟩ a w' → KA a w')) :
    (plyCod 22).wp Tryz.prog (Exit.inBlock 4 (Exit.then KA (Exit.inBlock 3 (Exit.then K4 (Exit.then K2 (Exit.inBlock 2 (Exit.then K3 (bodyPost Tryz.prog Tryz.f3 (fun e w' => e = .returned (.bool true) ∧ Below w.heap.size w w'))))))))) act wX := by
  obtain ⟨u, rfl⟩ := hfr.open_
  clear hfr
  conv => arg 2; whnf
  obtain ⟨lb, b0, b1, b2, -, -, -, -, -, -, -, -, b11⟩ := HI.out.bx
  simp only at b1 b2
  have hnl : l.length ≤ 20 := HI.out.nl
  clear lb b0 b1 b2 b11
  go_wp2_with fail
  refine (rall_any g D wX HI.out.pl.doc).mono ?_
  rintro e w1 ⟨A1, c1, rfl, ho1, hb1⟩
  have HP1 := hid (HI.out.pl.below hb1)
  have HX1 := hid (HI.out.bx.below hb1)
  have HS1 := hid (SlE.of_own ho1)
  have HOKD : Hid (OkT D) := hid HI.out.pl.tab.at_.ok
  obtain ⟨L, hL⟩ : ∃ L, (ents D fun _ => true) = L := ⟨_, rfl⟩
  have HL := hid hL
  have HLL : Hid (L.length ≤ 512) := hid (by rw [← hL]; exact ents_len _ _)
  rw [hL] at HS1 ⊢
  clear hL ho1 hb1
  go_wp2_with fail
  refine wp_loop_ghost_k (RIf w1 g gb tb v70 N i (amongB n l) (.slice A1 L.length c1) L) 600 ⟨0, none, 0, ⟨rfl, rfl, rfl, rfl, rfl, rfl, rfl, rfl, rfl, rfl, rfl, rfl, rfl⟩, Nat.zero_le _, hid (World.ownsRow_nil _ _ _ _), hid (Below.refl _ _), by have := HLL.out; omega⟩ ?_
  intro gk act wr hinv J KL hJ hK
  obtain ⟨jj, A, c, hfr, hj, HO, HB, hgk⟩ := hinv
  have HKL : Hid (∀ m' a' w', m' < gk → RIf w1 g gb tb v70 N i (amongB n l) (.slice A1 L.length c1) L m' a' w' → KL a' w') := hid (fun m' a' w' hm hI => hK a' w' (Handed.intro m' hm (hJ _ _ _ hI)))
  obtain ⟨u, rfl⟩ := hfr.open_
  have HPR := hid (HP1.out.below HB.out)
  have HXR := hid (HX1.out.below HB.out)
  clear hfr hJ hK
  by_cases hlt : jj < L.length
  · obtain ⟨Aq, cq, hv, hcq, hrow⟩ := HS1.out
    injection hv with e1 e2 e3
    obtain ⟨bq, oq, hA, hbq, hx⟩ := hrow (by omega)
    obtain rfl : A1 = some ⟨bq, oq, none⟩ := e1.trans hA
    subst e3
    have hmem : L.getD jj e0 ∈ L := by rw [List.getD_eq_getElem?_getD, List.getElem?_eq_getElem hlt]; exact List.getElem_mem hlt
    obtain ⟨zn, zk, za, zb, zc, zd, hz⟩ := ent_of (x := L.getD jj e0)
    obtain ⟨z0, z1, z2, z3, z4', z5⟩ := (hx jj hlt).keep (w' := wr) fun o => HB.out.cell (p := ⟨bq, o, none⟩) hbq
    rw [hz] at z0 z1 z2 z3 z4' z5 hmem
    rw [← HL.out] at hmem
    have hm2 := (mem_ents HOKD.out).1 hmem
    have hok2 := HOKD.out zn zk (by rw [hm2.1]; exact hm2.2.1)
    simp only at z0 z1 z2 z3 z4' z5
    have hkz : 0 ≤ zk := by have := hok2.2.1; unfold keyB at this; simp only [Bool.and_eq_true, decide_eq_true_eq] at this; omega
    have htm : Int.tmod zk 8 = zk % 8 := Int.tmod_eq_emod_of_nonneg hkz
    have hwp1 := wrap_succ (t := jj) (T := (jj : Int)) rfl (by have := HLL.out; omega)
    have HZ := hid hz
    clear hrow hx hmem hm2 hok2 hz hA e1 e2 hcq hkz
    go_upto_region 51 with fail
    obtain ⟨X, hX, HBX, HZB⟩ := box6 wr zn zk za zb zc zd 37
    obtain ⟨gz, hgz⟩ : ∃ gz, wr.heap.size = gz := ⟨_, rfl⟩
    have HGZ := hid hgz
    have HBWX := hid (HB.out.trans (HBX.out.mono HB.out.size))
    have HOX := hid (own_below HO.out HBX.out)
    have HXX := hid (HXR.out.below HBX.out)
    have HPX := hid (HPR.out.below HBX.out)
    rw [hgz] at HZB
    try rw [hX]
    try rw [hgz]
    clear hX hgz z0 z1 z2 z3 z4' z5
    have ⟨l1, f0, f1, f2, f3, f4, f5⟩ := HZB.out
    obtain ⟨lb, b0, b1, b2, -, -, -, -, -, -, -, -, b11⟩ := HXX.out
    simp only at b1 b2
    by_cases hzn : zn = n
    · subst hzn
      obtain ⟨β, hβ⟩ : ∃ β, l.contains (zk % 8) = β := ⟨_, rfl⟩
      have HBT := hid hβ
      have hbel := HPX.out.bel
      clear hβ
      go_wp2_with fail
      refine (in_any vl l (zk % 8) (by omega) β HBT X ((HI.out.l.below hbel).mono hbel.size)).mono ?_
      rintro e w2 ⟨rfl, hb⟩
      have HX2 := hid (HXX.out.below hb)
      have HB2 := hid (HBWX.out.trans (hb.mono HBWX.out.size))
      have HO2 := hid (own_below HOX.out hb)
      have HZ2 := hid (HZB.out.below hb HZB.out.lt)
      clear hb lb b0 b1 b2 b11 l1 f0 f1 f2 f3 f4 f5 hbel
      cases β with
      | false =>
        have HS := hid (filt_no (S := amongB zn l) hlt HZ.out (by show (decide (zn = zn) && l.contains (zk % 8)) = false; rw [HBT.out]; simp))
        go_wp2_with fail
        exact HKL.out (L.length - (jj + 1)) _ _ (go_down hlt hgk) ⟨jj + 1, A, c, by rw [HS.out]; exact ⟨rfl, rfl, rfl, rfl, rfl, rfl, rfl, rfl, rfl, rfl, rfl, rfl, by first | exact congrArg (Value.int .i64) hwp1 | rfl⟩, hlt, by rw [HS.out]; exact HO2, HB2, Nat.le_refl _⟩
      | true =>
        have HS := hid (filt_yes (S := amongB zn l) hlt HZ.out (by show (decide (zn = zn) && l.contains (zk % 8)) = true; rw [HBT.out]; simp))
        have hfl := filt_len (amongB zn l) L jj
        obtain ⟨F, hF⟩ : ∃ F, filt (amongB zn l) L jj = F := ⟨_, rfl⟩
        rw [hF] at HS hfl HO2 ⊢
        have ⟨l1, f0, f1, f2, f3, f4, f5⟩ := HZ2.out
        obtain ⟨i0, hi, hz0, hz1, hz2⟩ := info_parts entInfo
        have HNC := hid (new_ent w2 zn zk za zb zc zd 37)
        have HO5 := hid (HO2.out.alloc (.cells #[.int .i64 zn, .int .i64 zk, .int .i64 za, .int .i64 zb, .int .i64 zc, .int .i64 zd] 37))
        have HB5 := hid (HB2.out.trans (((Below.refl w2.heap.size w2).alloc (Nat.le_refl _) (.cells #[.int .i64 zn, .int .i64 zk, .int .i64 za, .int .i64 zb, .int .i64 zc, .int .i64 zd] 37)).mono HB2.out.size))
        have hbs : w1.heap.size ≤ (w2.alloc (.cells #[.int .i64 zn, .int .i64 zk, .int .i64 za, .int .i64 zb, .int .i64 zc, .int .i64 zd] 37)).heap.size := HB5.out.size
        have hmx := small_max (a := F.length) (Nat.le_trans hfl (Nat.le_trans hj (Nat.le_trans HLL.out (by decide))))
        clear hF hfl
        go_wp2_with (at_builtin; refine wpList_append_own _ rfl _ _ 22 rfl w1.heap.size 37 i0 (.agg #[.int .i64 0, .int .i64 0, .int .i64 0, .int .i64 0, .int .i64 0, .int .i64 0]) 6 48 Tryz.underlying22 hi hz0 hz1 hz2 rfl (by decide) (.slice A F.length c) F.length (entCells F) rfl HO5.out ⟨w2.heap.size, 0, none⟩ 1 1 (encE ((zn, zk), ((za, zb), (zc, zd)))) rfl rfl HNC.out (encE_one _) hmx.1 hmx.2 hbs ?_; intro v' w6 hown6 hg6 _; obtain ⟨A6, c6, rfl⟩ := own_form hown6; have HO6 := hid hown6; have HG6 := hid hg6; clear hown6 hg6)
        have hlen : (F ++ [((zn, zk), ((za, zb), (zc, zd)))]).length = F.length + 1 := by simp
        have HB6 := hid (HB5.out.grown HG6.out hbs (fun q hq => (HO5.out.lt _ hq).1))
        exact HKL.out (L.length - (jj + 1)) _ _ (go_down hlt hgk) ⟨jj + 1, A6, c6, by rw [HS.out, hlen]; exact ⟨rfl, rfl, rfl, rfl, rfl, rfl, rfl, rfl, rfl, rfl, rfl, rfl, by first | exact congrArg (Value.int .i64) hwp1 | rfl⟩, hlt, by rw [HS.out, hlen, entCells_snoc]; exact HO6, HB6, Nat.le_refl _⟩
    · have hzb : (zn == n) = false := by simpa using hzn
      have HS := hid (filt_no (S := amongB n l) hlt HZ.out (by show (decide (zn = n) && l.contains (zk % 8)) = false; rw [decide_eq_false hzn]; rfl))
      go_wp2_with fail
      exact HKL.out (L.length - (jj + 1)) _ _ (go_down hlt hgk) ⟨jj + 1, A, c, by rw [HS.out]; exact ⟨rfl, rfl, rfl, rfl, rfl, rfl, rfl, rfl, rfl, rfl, rfl, rfl, by first | exact congrArg (Value.int .i64) hwp1 | rfl⟩, hlt, by rw [HS.out]; exact HOX, HBWX, Nat.le_refl _⟩
  · obtain rfl : jj = L.length := by omega
    have hfe : filt (amongB n l) L L.length = ents D (amongB n l) := by unfold filt; rw [List.take_length, ← HL.out]; exact ents_filter _ _
    rw [hfe] at HO ⊢
    have HSW := hid (SlE.of_own HO.out)
    obtain ⟨lb, b0, b1, b2, -, -, -, -, -, -, -, -, b11⟩ := HXR.out
    simp only at b1 b2
    have hbel := HPR.out.bel
    clear hfe
    go_wp2_with fail
    refine (of_any_ tb m D n vl l (by omega) wr HPR.out.tab.at_ ((HI.out.l.below hbel).mono hbel.size)).mono ?_
    rintro e w2 ⟨A2, c2, rfl, ho2, hb2⟩
    have HP2 := hid (HPR.out.below hb2)
    have HX2 := hid (HXR.out.below hb2)
    have HS2 := hid (SlE.of_own ho2)
    have HSW2 := hid (HSW.out.up hb2)
    clear ho2 hb2 lb b0 b1 b2 b11 hbel
    go_wp2_with fail
    refine (csame_any _ _ (ents D (amongB n l)) (ents D (amongB n l)) true (hid (by simp)) (by have := ents_len D (amongB n l); omega) (by have := ents_len D (amongB n l); omega) w2 HS2.out HSW2.out).mono ?_
    rintro e w3 ⟨rfl, hb3⟩
    have HP3 := hid (HP2.out.below hb3)
    have HX3 := hid (HX2.out.below hb3)
    clear hb3
    go_wp2_with fail
    exact HE.out _ _ ⟨tb, m, _, ⟨rfl, rfl, rfl, rfl, rfl, rfl, rfl, rfl, rfl⟩, HP3, HX3⟩

end Go.Proofs.YtfhlpbjdcdagjaaGreatDoor
