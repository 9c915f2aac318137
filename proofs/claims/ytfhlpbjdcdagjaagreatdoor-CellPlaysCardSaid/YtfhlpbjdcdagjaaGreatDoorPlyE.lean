/- Layer 7, cell: CellPlays: Drop. -/
import Derived.Test.YtfhlpbjdcdagjaaGreatDoorHbd
namespace Go.Proofs.YtfhlpbjdcdagjaaGreatDoor
open Go.RowKit Go.Lib Go.MapKept
open Go.Sort (grow)
set_option linter.unusedVariables false
set_option maxRecDepth 100000

structure FrE (v5 : Value) (g gb : Nat) (v70 : Value) (n i k t : Int) (a : Act) : Prop where
  size : a.tmps.size = 319
  defers : a.defers = []
  t5 : a.tmps.getD 5 undef = v5
  t7 : a.tmps.getD 7 undef = .pointer (some ⟨g, 0, none⟩)
  t11 : a.tmps.getD 11 undef = .pointer (some ⟨gb, 0, none⟩)
  t16 : a.tmps.getD 16 undef = .int .i64 t
  t70 : a.tmps.getD 70 undef = v70
  t71 : a.tmps.getD 71 undef = .int .i64 n
  t72 : a.tmps.getD 72 undef = .int .i64 i
  t87 : a.tmps.getD 87 undef = .int .i64 k

theorem FrE.open_ {v5 : Value} {g gb : Nat} {v70 : Value} {n i k t : Int} {a : Act} (h : FrE v5 g gb v70 n i k t a) : ∃ u : Nat → Value, a = ⟨(u 0 :: u 1 :: u 2 :: u 3 :: u 4 :: v5 :: u 6 :: .pointer (some ⟨g, 0, none⟩) :: u 8 :: u 9 :: u 10 :: .pointer (some ⟨gb, 0, none⟩) :: u 12 :: u 13 :: u 14 :: u 15 :: .int .i64 t :: u 17 :: u 18 :: u 19 :: u 20 :: u 21 :: u 22 :: u 23 :: u 24 :: u 25 :: u 26 :: u 27 :: u 28 :: u 29 :: u 30 :: u 31 :: u 32 :: u 33 :: u 34 :: u 35 :: u 36 :: u 37 :: u 38 :: u 39 :: u 40 :: u 41 :: u 42 :: u 43 :: u 44 :: u 45 :: u 46 :: u 47 :: u 48 :: u 49 :: u 50 :: u 51 :: u 52 :: u 53 :: u 54 :: u 55 :: u 56 :: u 57 :: u 58 :: u 59 :: u 60 :: u 61 :: u 62 :: u 63 :: u 64 :: u 65 :: u 66 :: u 67 :: u 68 :: u 69 :: v70 :: .int .i64 n :: .int .i64 i :: u 73 :: u 74 :: u 75 :: u 76 :: u 77 :: u 78 :: u 79 :: u 80 :: u 81 :: u 82 :: u 83 :: u 84 :: u 85 :: u 86 :: .int .i64 k :: u 88 :: u 89 :: u 90 :: u 91 :: u 92 :: u 93 :: u 94 :: u 95 :: u 96 :: u 97 :: u 98 :: u 99 :: u 100 :: u 101 :: u 102 :: u 103 :: u 104 :: u 105 :: u 106 :: u 107 :: u 108 :: u 109 :: u 110 :: u 111 :: u 112 :: u 113 :: u 114 :: u 115 :: u 116 :: u 117 :: u 118 :: u 119 :: u 120 :: u 121 :: u 122 :: u 123 :: u 124 :: u 125 :: u 126 :: u 127 :: u 128 :: u 129 :: u 130 :: u 131 :: u 132 :: u 133 :: u 134 :: u 135 :: u 136 :: u 137 :: u 138 :: u 139 :: u 140 :: u 141 :: u 142 :: u 143 :: u 144 :: u 145 :: u 146 :: u 147 :: u 148 :: u 149 :: u 150 :: u 151 :: u 152 :: u 153 :: u 154 :: u 155 :: u 156 :: u 157 :: u 158 :: u 159 :: u 160 :: u 161 :: u 162 :: u 163 :: u 164 :: u 165 :: u 166 :: u 167 :: u 168 :: u 169 :: u 170 :: u 171 :: u 172 :: u 173 :: u 174 :: u 175 :: u 176 :: u 177 :: u 178 :: u 179 :: u 180 :: u 181 :: u 182 :: u 183 :: u 184 :: u 185 :: u 186 :: u 187 :: u 188 :: u 189 :: u 190 :: u 191 :: u 192 :: u 193 :: u 194 :: u 195 :: u 196 :: u 197 :: u 198 :: u 199 :: u 200 :: u 201 :: u 202 :: u 203 :: u 204 :: u 205 :: u 206 :: u 207 :: u 208 :: u 209 :: u 210 :: u 211 :: u 212 :: u 213 :: u 214 :: u 215 :: u 216 :: u 217 :: u 218 :: u 219 :: u 220 :: u 221 :: u 222 :: u 223 :: u 224 :: u 225 :: u 226 :: u 227 :: u 228 :: u 229 :: u 230 :: u 231 :: u 232 :: u 233 :: u 234 :: u 235 :: u 236 :: u 237 :: u 238 :: u 239 :: u 240 :: u 241 :: u 242 :: u 243 :: u 244 :: u 245 :: u 246 :: u 247 :: u 248 :: u 249 :: u 250 :: u 251 :: u 252 :: u 253 :: u 254 :: u 255 :: u 256 :: u 257 :: u 258 :: u 259 :: u 260 :: u 261 :: u 262 :: u 263 :: u 264 :: u 265 :: u 266 :: u 267 :: u 268 :: u 269 :: u 270 :: u 271 :: u 272 :: u 273 :: u 274 :: u 275 :: u 276 :: u 277 :: u 278 :: u 279 :: u 280 :: u 281 :: u 282 :: u 283 :: u 284 :: u 285 :: u 286 :: u 287 :: u 288 :: u 289 :: u 290 :: u 291 :: u 292 :: u 293 :: u 294 :: u 295 :: u 296 :: u 297 :: u 298 :: u 299 :: u 300 :: u 301 :: u 302 :: u 303 :: u 304 :: u 305 :: u 306 :: u 307 :: u 308 :: u 309 :: u 310 :: u 311 :: u 312 :: u 313 :: u 314 :: u 315 :: u 316 :: u 317 :: u 318 :: []).toArray, []⟩ := by
  obtain ⟨hn, hd, h5, h7, h11, h16, h70, h71, h72, h87⟩ := h
  obtain ⟨u, hu⟩ : ∃ u : Nat → Value, u = fun k => a.tmps.getD k undef := ⟨_, rfl⟩
  have ha : a = ⟨(u 0 :: u 1 :: u 2 :: u 3 :: u 4 :: u 5 :: u 6 :: u 7 :: u 8 :: u 9 :: u 10 :: u 11 :: u 12 :: u 13 :: u 14 :: u 15 :: u 16 :: u 17 :: u 18 :: u 19 :: u 20 :: u 21 :: u 22 :: u 23 :: u 24 :: u 25 :: u 26 :: u 27 :: u 28 :: u 29 :: u 30 :: u 31 :: u 32 :: u 33 :: u 34 :: u 35 :: u 36 :: u 37 :: u 38 :: u 39 :: u 40 :: u 41 :: u 42 :: u 43 :: u 44 :: u 45 :: u 46 :: u 47 :: u 48 :: u 49 :: u 50 :: u 51 :: u 52 :: u 53 :: u 54 :: u 55 :: u 56 :: u 57 :: u 58 :: u 59 :: u 60 :: u 61 :: u 62 :: u 63 :: u 64 :: u 65 :: u 66 :: u 67 :: u 68 :: u 69 :: u 70 :: u 71 :: u 72 :: u 73 :: u 74 :: u 75 :: u 76 :: u 77 :: u 78 :: u 79 :: u 80 :: u 81 :: u 82 :: u 83 :: u 84 :: u 85 :: u 86 :: u 87 :: u 88 :: u 89 :: u 90 :: u 91 :: u 92 :: u 93 :: u 94 :: u 95 :: u 96 :: u 97 :: u 98 :: u 99 :: u 100 :: u 101 :: u 102 :: u 103 :: u 104 :: u 105 :: u 106 :: u 107 :: u 108 :: u 109 :: u 110 :: u 111 :: u 112 :: u 113 :: u 114 :: u 115 :: u 116 :: u 117 :: u 118 :: u 119 :: u 120 :: u 121 :: u 122 :: u 123 :: u 124 :: u 125 :: u 126 :: u 127 :: u 128 :: u 129 :: u 130 :: u 131 :: u 132 :: u 133 :: u 134 :: u 135 :: u 136 :: u 137 :: u 138 :: u 139 :: u 140 :: u 141 :: u 142 :: u 143 :: u 144 :: u 145 :: u 146 :: u 147 :: u 148 :: u 149 :: u 150 :: u 151 :: u 152 :: u 153 :: u 154 :: u 155 :: u 156 :: u 157 :: u 158 :: u 159 :: u 160 :: u 161 :: u 162 :: u 163 :: u 164 :: u 165 :: u 166 :: u 167 :: u 168 :: u 169 :: u 170 :: u 171 :: u 172 :: u 173 :: u 174 :: u 175 :: u 176 :: u 177 :: u 178 :: u 179 :: u 180 :: u 181 :: u 182 :: u 183 :: u 184 :: u 185 :: u 186 :: u 187 :: u 188 :: u 189 :: u 190 :: u 191 :: u 192 :: u 193 :: u 194 :: u 195 :: u 196 :: u 197 :: u 198 :: u 199 :: u 200 :: u 201 :: u 202 :: u 203 :: u 204 :: u 205 :: u 206 :: u 207 :: u 208 :: u 209 :: u 210 :: u 211 :: u 212 :: u 213 :: u 214 :: u 215 :: u 216 :: u 217 :: u 218 :: u 219 :: u 220 :: u 221 :: u 222 :: u 223 :: u 224 :: u 225 :: u 226 :: u 227 :: u 228 :: u 229 :: u 230 :: u 231 :: u 232 :: u 233 :: u 234 :: u 235 :: u 236 :: u 237 :: u 238 :: u 239 :: u 240 :: u 241 :: u 242 :: u 243 :: u 244 :: u 245 :: u 246 :: u 247 :: u 248 :: u 249 :: u 250 :: u 251 :: u 252 :: u 253 :: u 254 :: u 255 :: u 256 :: u 257 :: u 258 :: u 259 :: u 260 :: u 261 :: u 262 :: u 263 :: u 264 :: u 265 :: u 266 :: u 267 :: u 268 :: u 269 :: u 270 :: u 271 :: u 272 :: u 273 :: u 274 :: u 275 :: u 276 :: u 277 :: u 278 :: u 279 :: u 280 :: u 281 :: u 282 :: u 283 :: u 284 :: u 285 :: u 286 :: u 287 :: u 288 :: u 289 :: u 290 :: u 291 :: u 292 :: u 293 :: u 294 :: u 295 :: u 296 :: u 297 :: u 298 :: u 299 :: u 300 :: u 301 :: u 302 :: u 303 :: u 304 :: u 305 :: u 306 :: u 307 :: u 308 :: u 309 :: u 310 :: u 311 :: u 312 :: u 313 :: u 314 :: u 315 :: u 316 :: u 317 :: u 318 :: []).toArray, a.defers⟩ := by
    rw [hu]; exact frame_eq hn
  have e5 : u 5 = _ := (congrFun hu 5).trans h5
  have e7 : u 7 = _ := (congrFun hu 7).trans h7
  have e11 : u 11 = _ := (congrFun hu 11).trans h11
  have e16 : u 16 = _ := (congrFun hu 16).trans h16
  have e70 : u 70 = _ := (congrFun hu 70).trans h70
  have e71 : u 71 = _ := (congrFun hu 71).trans h71
  have e72 : u 72 = _ := (congrFun hu 72).trans h72
  have e87 : u 87 = _ := (congrFun hu 87).trans h87
  rw [e5, e7, e11, e16, e70, e71, e72, e87, hd] at ha
  exact ⟨u, ha⟩

theorem DTab.congr {w : World} {g : Nat} {D D' : CTab} (h : DTab w g D) (he : ∀ n k : Nat, n < 8 → k < 64 → D n k = D' n k) : DTab w g D' :=
  ⟨h.lt, fun n k hn hk => by rw [← he n k hn hk]; exact h.q n k hn hk, h.f⟩

/-- What Drop leaves of the document's table after some places. -/
def dropK (D : CTab) (n : Int) (l : List Int) (j : Nat) : CTab := fun n' k' => if k' < (j : Int) ∧ amongB n l (n', k') = true then z4 else D n' k'

theorem dropK_zero (D : CTab) (n : Int) (l : List Int) (n' k' : Nat) : D n' k' = dropK D n l 0 n' k' := by
  unfold dropK
  rw [if_neg (fun q => by have := q.1; omega)]

theorem dropK_skip {D : CTab} {n : Int} {l : List Int} {j n' k' : Nat} (h : amongB n l (n', j) = false) : dropK D n l j n' k' = dropK D n l (j + 1) n' k' := by
  unfold dropK
  by_cases e : k' = j
  · subst e
    rw [if_neg (fun q => by have := q.1; omega), if_neg (fun q => by rw [h] at q; cases q.2)]
  · by_cases hlt : (k' : Int) < (j : Int)
    · have h2 : (k' : Int) < ((j + 1 : Nat) : Int) := by omega
      simp only [hlt, h2, true_and]
    · have h2 : ¬ (k' : Int) < ((j + 1 : Nat) : Int) := by omega
      rw [if_neg (fun q => hlt q.1), if_neg (fun q => h2 q.1)]

theorem dropK_set {D : CTab} {n : Nat} {l : List Int} {j n' k' : Nat} (h : l.contains ((j : Int) % 8) = true) : setT (dropK D n l j) n j ((0, 0), (0, 0)) n' k' = dropK D n l (j + 1) n' k' := by
  by_cases e : n' = n ∧ k' = j
  · obtain ⟨rfl, rfl⟩ := e
    rw [setT_same]
    unfold dropK
    rw [if_pos ⟨by omega, by show (decide ((n' : Int) = (n' : Int)) && l.contains ((k' : Int) % 8)) = true; rw [h]; simp⟩]
    rfl
  · rw [setT_other _ _ (fun q => e ⟨by omega, by omega⟩)]
    by_cases e2 : k' = j
    · subst e2
      refine dropK_skip ?_
      unfold amongB
      have : ¬ (n' : Int) = (n : Int) := fun q => e ⟨by omega, rfl⟩
      simp [this]
    · unfold dropK
      by_cases hlt : (k' : Int) < (j : Int)
      · have h2 : (k' : Int) < ((j + 1 : Nat) : Int) := by omega
        simp only [hlt, h2, true_and]
      · have h2 : ¬ (k' : Int) < ((j + 1 : Nat) : Int) := by omega
        rw [if_neg (fun q => hlt q.1), if_neg (fun q => h2 q.1)]

theorem dropK_end {D : CTab} {n : Int} {l : List Int} {n' k' : Nat} (h : k' < 64) : dropK D n l 64 n' k' = dropT D (amongB n l) n' k' := by
  unfold dropK dropT
  have h2 : (k' : Int) < ((64 : Nat) : Int) := by omega
  simp only [h2, true_and]

def RIe (w : World) (g gb tb : Nat) (m : Option Nat) (D : CTab) (vp vl v70 : Value) (N i : Int) (y : OpT) (gk : Nat) (a : Act) (wr : World) : Prop :=
  ∃ jj : Nat, FrE (tabV tb) g gb v70 N i 2 (jj : Int) a ∧ jj ≤ 64 ∧ Hid (PlS w g tb m (dropT D (amongB y.x.1.1 y.l)) (dropK D y.x.1.1 y.l jj) wr) ∧ Hid (BxO wr gb vp vl y) ∧ 64 - jj ≤ gk

set_option maxHeartbeats 4000000 in
theorem play_2 (w : World) (g gb tb : Nat) (m : Option Nat) (D : CTab) (vp vl v70 : Value) (N i n key xa xb xc xd rk rx ry : Int) (p : List (Int × Int)) (l : List Int) (act : Act) (wX : World) (HI : Hid (PlyI w g gb tb m D vp vl ⟨2, ((n, key), ((xa, xb), (xc, xd))), p, (rk, (rx, ry)), l⟩ wX)) (hfr : FrC (tabV tb) g gb v70 N i 2 act)
    (KA K4 K2 K3 : Act → World → Prop) (HE : Hid (∀ a w', PlyH w g gb v70 N i 2 vp vl ⟨2, ((n, key), ((xa, xb), (xc, xd))), p, (rk, (rx, ry)), l⟩ a w' → KA a w')) :
    (plyCod 22).wp Tryz.prog (Exit.inBlock 4 (Exit.then KA (Exit.inBlock 3 (Exit.then K4 (Exit.then K2 (Exit.inBlock 2 (Exit.then K3 (bodyPost Tryz.prog Tryz.f3 (fun e w' => e = .returned (.bool true) ∧ Below w.heap.size w w'))))))))) act wX := by
  obtain ⟨u, rfl⟩ := hfr.open_
  clear hfr
  conv => arg 2; whnf
  obtain ⟨lb, b0, b1, b2, -, -, -, -, -, -, -, -, b11⟩ := HI.out.bx
  simp only at b1 b2
  have hbel := HI.out.pl.bel
  have hnl : l.length ≤ 20 := HI.out.nl
  go_wp2_with fail
  refine (drop_any tb m D n vl l (by omega) wX HI.out.pl.tab.at_ ((HI.out.l.below hbel).mono hbel.size)).mono ?_
  rintro e w1 ⟨rfl, ht, hgr⟩
  have HP1 := hid (HI.out.pl.turn ht hgr (.inl rfl))
  have HX1 := hid (HI.out.bx.grown hgr HI.out.foot_ne)
  clear ht hgr lb b0 b1 b2 b11 hbel
  go_wp2_with fail
  refine wp_loop_ghost_k (RIe w g gb tb m D vp vl v70 N i ⟨2, ((n, key), ((xa, xb), (xc, xd))), p, (rk, (rx, ry)), l⟩) 100 ⟨0, ⟨rfl, rfl, rfl, rfl, rfl, rfl, rfl, rfl, rfl, rfl⟩, Nat.zero_le _, hid ⟨HP1.out.tab, HP1.out.doc.congr fun n' k' _ _ => dropK_zero D n l n' k', HP1.out.ng, HP1.out.mg, HP1.out.hg, HP1.out.bel⟩, HX1, by omega⟩ ?_
  clear HP1 HX1
  intro gk act wr hinv J KL hJ hK
  obtain ⟨jj, hfr, hj, HP, HX, hgk⟩ := hinv
  have HKL : Hid (∀ m' a' w', m' < gk → RIe w g gb tb m D vp vl v70 N i ⟨2, ((n, key), ((xa, xb), (xc, xd))), p, (rk, (rx, ry)), l⟩ m' a' w' → KL a' w') := hid (fun m' a' w' hm hI => hK a' w' (Handed.intro m' hm (hJ _ _ _ hI)))
  obtain ⟨u, rfl⟩ := hfr.open_
  clear hfr hJ hK
  obtain ⟨lb, b0, b1, b2, -, -, -, -, -, -, -, -, b11⟩ := HX.out
  simp only at b1 b2
  by_cases hlt : jj < 64
  · have hj64 : (jj : Int) < 64 := by omega
    have hwp1 := wrap_succ (t := jj) (T := (jj : Int)) rfl (by omega)
    have hbel := HP.out.bel
    have htm : Int.tmod (jj : Int) 8 = (jj : Int) % 8 := Int.tmod_eq_emod_of_nonneg (by omega)
    obtain ⟨β, hβ⟩ : ∃ β, l.contains ((jj : Int) % 8) = β := ⟨_, rfl⟩
    have HBT := hid hβ
    clear hβ
    go_wp2_with fail
    refine (in_any vl l ((jj : Int) % 8) (by omega) β HBT wr ((HI.out.l.below hbel).mono hbel.size)).mono ?_
    rintro e w2 ⟨rfl, hb⟩
    have HP2 := hid (HP.out.below hb)
    have HX2 := hid (HX.out.below hb)
    clear hb lb b0 b1 b2 b11 hbel htm
    obtain ⟨lb, b0, b1, b2, -⟩ := HX2.out
    simp only at b1 b2
    have skip : ∀ (a' : Act), FrE (tabV tb) g gb v70 N i 2 ((jj + 1 : Nat) : Int) a' → (∀ n' : Nat, n' < 8 → amongB n l ((n' : Int), (jj : Int)) = false) → KL a' w2 := fun a' hfr hf =>
      HKL.out (64 - (jj + 1)) _ _ (go_down hlt hgk) ⟨jj + 1, hfr, hlt, hid ⟨HP2.out.tab, HP2.out.doc.congr fun n' k' hn' _ => dropK_skip (hf n' hn'), HP2.out.ng, HP2.out.mg, HP2.out.hg, HP2.out.bel⟩, HX2, Nat.le_refl _⟩
    have HSK := hid skip
    clear skip
    cases β with
    | false =>
      go_wp2_with fail
      exact HSK.out _ ⟨rfl, rfl, rfl, rfl, rfl, by first | exact congrArg (Value.int .i64) hwp1 | rfl, rfl, rfl, rfl, rfl⟩ (fun n' _ => by unfold amongB; simp only [HBT.out, Bool.and_false])
    | true =>
      by_cases h0 : 0 ≤ n
      · by_cases h8 : n < 8
        · obtain ⟨zn, rfl⟩ : ∃ zn : Nat, n = zn := ⟨n.toNat, by omega⟩
          have hn8 : zn < 8 := by omega
          have HN8 := hid hn8
          obtain ⟨d0, d1, d2, d3⟩ := HP2.out.doc.q zn jj hn8 hlt
          have df := HP2.out.doc.f
          have lgd := HP2.out.doc.lt
          clear hn8 h0
          go_wp2_with fail
          refine cut_r (H := fun a w5 => FrE (tabV tb) g gb v70 N i 2 (jj : Int) a ∧ w5 = (set4o w2 g (zn * 256 + jj * 4) 0 0 0 0).drew) ?_ fun hend => ?_
          · rintro a w5 ⟨hfr, hw5⟩
            have hgr5 : w2.grownBy w5 (some g) := by rw [hw5]; exact turned_drew (set4o_grown _ _ _ _ _ _ _)
            have HP5 := hid (HP2.out.put (by rw [hw5]; exact (HP2.out.doc.put HN8.out hlt 0 0 0 0).keep rfl (Nat.le_refl _)) hgr5)
            have HX5 := hid (HX2.out.grown hgr5 HI.out.ng.symm)
            obtain ⟨u2, rfl⟩ := hfr.open_
            clear hfr hw5 hgr5 d0 d1 d2 d3 df lgd lb b0 b1 b2
            go_wp2_with fail
            exact HKL.out (64 - (jj + 1)) _ _ (go_down hlt hgk) ⟨jj + 1, ⟨rfl, rfl, rfl, rfl, rfl, by first | exact congrArg (Value.int .i64) hwp1 | rfl, rfl, rfl, rfl, rfl⟩, hlt, hid ⟨HP5.out.tab, HP5.out.doc.congr fun n' k' _ _ => dropK_set HBT.out, HP5.out.ng, HP5.out.mg, HP5.out.hg, HP5.out.bel⟩, HX5, Nat.le_refl _⟩
          · go_region_law (fail)
            all_goals exact hend _ _ ⟨⟨rfl, rfl, rfl, rfl, rfl, rfl, rfl, rfl, rfl, rfl⟩, rfl⟩
        · go_wp2_with fail
          exact HSK.out _ ⟨rfl, rfl, rfl, rfl, rfl, by first | exact congrArg (Value.int .i64) hwp1 | rfl, rfl, rfl, rfl, rfl⟩ (fun n' hn' => by unfold amongB; simp only [Bool.and_eq_false_iff, decide_eq_false_iff_not]; exact .inl (by omega))
      · go_wp2_with fail
        exact HSK.out _ ⟨rfl, rfl, rfl, rfl, rfl, by first | exact congrArg (Value.int .i64) hwp1 | rfl, rfl, rfl, rfl, rfl⟩ (fun n' hn' => by unfold amongB; simp only [Bool.and_eq_false_iff, decide_eq_false_iff_not]; exact .inl (by omega))
  · obtain rfl : jj = 64 := by omega
    clear lb b0 b1 b2 b11
    go_wp2_with fail
    exact HE.out _ _ ⟨tb, m, _, ⟨rfl, rfl, rfl, rfl, rfl, rfl, rfl, rfl, rfl⟩, hid ⟨HP.out.tab, HP.out.doc.congr fun n' k' _ hk' => dropK_end hk', HP.out.ng, HP.out.mg, HP.out.hg, HP.out.bel⟩, HX⟩

end Go.Proofs.YtfhlpbjdcdagjaaGreatDoor
