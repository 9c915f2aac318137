/- Layer 5, check: the document's Check: what its walk needs. -/
import Derived.Test.YtfohdoahddommaaGreatDoorRefB
import Derived.Test.YtfohdoahddommaaGreatDoorRegQ
import Derived.Deep.LoopGhost
import Derived.Deep.DeepCutAuto
import Derived.Deep.CutBlock
import Derived.Deep.QuietTactic
import Derived.BigQuiet
import Derived.BigRegion
import Derived.Maps.RangeWalk
import Derived.Deep.RegionHeld3
namespace Go.Proofs.YtfohdoahddommaaGreatDoor
open Go.RowKit
set_option linter.unusedVariables false
set_option maxRecDepth 100000

theorem i64_small {n : Int} (h0 : -1000000 ≤ n) (h1 : n ≤ 1000000) : (Lit.int .i64 n).wf = true := by
  simp [Lit.wf, IntKind.min, IntKind.max, IntKind.signed, IntKind.bits]
  omega

theorem rch_wf {l : List (Int × Int)} (h24 : l.length ≤ 24) {x : Pl} (h : ∃ t : Nat, x.1 = t ∧ Rch l t x.2.1 x.2.2) : Wf3 x := by
  obtain ⟨t, h1, h2⟩ := h
  have := rch_bounds h2
  have := rch_le h2
  exact ⟨i64_small (by omega) (by omega), i64_small (by omega) (by omega), i64_small (by omega) (by omega)⟩

theorem zeroBool (w : World) : (zeroValue 4).run Tryz.prog w = .ok (.bool false) w := by kernel_rfl

theorem met_keys {M : List Pl} (h : ∀ y ∈ M, Wf3 y) : ∀ p ∈ metL M, ∃ i, keyOf Tryz.prog 49 p.1 = some i := by
  intro p hp
  obtain ⟨y, hy, rfl⟩ := List.mem_map.1 hp
  exact key_pl (h y hy)

theorem plV_inj {x y : Pl} (h : plV x = plV y) : x = y := by
  obtain ⟨a, b, c⟩ := x
  obtain ⟨a', b', c'⟩ := y
  simp at h
  simp [h]

theorem met_look {X : World} {bM : Nat} {M : List Pl} (h : MapAt X bM (metL M)) (hw : ∀ y ∈ M, Wf3 y) {x : Pl} (hx : Wf3 x) (β : Bool) (hβ : β = true ↔ x ∈ M) :
    (Instr.lookup 47 (.map (some bM)) (plV x) false).run Tryz.prog X = .ok (.bool β) X := by
  obtain ⟨kl, hkl⟩ := key_pl hx
  rcases h.look keyedPl Tryz.underlying47 (zeroBool X) (met_keys hw) hkl with ⟨v, hv, hr⟩ | ⟨hno, hr⟩
  · rw [hr]
    obtain ⟨y, hy, e⟩ := List.mem_map.1 hv
    injection e with e1 e2
    have := plV_inj e1
    subst this
    rw [← e2, hβ.2 hy]
  · rw [hr]
    have : x ∉ M := fun q => hno (plV x, .bool true) (List.mem_map.2 ⟨x, q, rfl⟩) rfl
    cases β with
    | false => rfl
    | true => exact absurd (hβ.1 rfl) this

/-- In a round: the place's own box gx. -/
structure RnAt (W w : World) (K : RfK) (vT : Value) (s : RfS) (gx : Nat) (t d e : Int) : Prop where
  rf : RfAt W w K vT s
  x0 : w.cell? ⟨gx, 0, none⟩ = some (.int .i64 t)
  x1 : w.cell? ⟨gx, 1, none⟩ = some (.int .i64 d)
  x2 : w.cell? ⟨gx, 2, none⟩ = some (.int .i64 e)
  fr : Fr W K vT gx

section
variable {W w w' : World} {K : RfK} {vT : Value} {s : RfS} {gx : Nat} {t d e : Int}

theorem RnAt.start (h : RfAt W w K vT s) (t d e : Int) : RnAt W (w.alloc (.cells #[.int .i64 t, .int .i64 d, .int .i64 e] 49)) K vT s w.heap.size t d e :=
  ⟨h.alloc _, by simp, by simp, by simp, h.fresh⟩

theorem RnAt.lx (h : RnAt W w K vT s gx t d e) : gx < w.heap.size := World.block_lt_of_cell? w _ h.x0

theorem RnAt.setK (h : RnAt W w K vT s gx t d e) (s' : RfS) (hM : s'.M = s.M) (hT' : s'.T = s.T) (hD : s'.D = s.D) (i : Nat) (v : Value) (i1 : 1 ≤ i) (i4 : i ≤ 4)
    (h1 : (if i = 1 then v else .int .i64 s.mx) = .int .i64 s'.mx) (h2 : (if i = 2 then v else .int .i64 s.em) = .int .i64 s'.em) (h3 : (if i = 3 then v else .bool s.u0) = .bool s'.u0) (h4 : (if i = 4 then v else .bool s.u1) = .bool s'.u1) :
    RnAt W (w.setCell ⟨K.g3, i, none⟩ v) K vT s' gx t d e := by
  have o1 : ∀ j, (w.setCell ⟨K.g3, i, none⟩ v).cell? ⟨gx, j, none⟩ = w.cell? ⟨gx, j, none⟩ := fun j => World.cell?_setCell_other _ _ _ _ (by intro e; injection e with e1; exact h.fr.2.1 e1.symm)
  exact ⟨h.rf.setK s' hM hT' hD i v i1 i4 h1 h2 h3 h4, (o1 _).trans h.x0, (o1 _).trans h.x1, (o1 _).trans h.x2, h.fr⟩

theorem RnAt.setD (h : RnAt W w K vT s gx t d e) {k : Nat} (hk : k < K.n) (z : Int) : RnAt W (w.setCell ⟨K.gD, k, none⟩ (.int .i64 z)) K vT { s with D := s.D.set k z } gx t d e := by
  have o1 : ∀ j, (w.setCell ⟨K.gD, k, none⟩ (.int .i64 z)).cell? ⟨gx, j, none⟩ = w.cell? ⟨gx, j, none⟩ := fun j => World.cell?_setCell_other _ _ _ _ (by intro e; injection e with e1; exact h.fr.2.2.2.1 (by omega) e1.symm)
  exact ⟨h.rf.setD hk z, (o1 _).trans h.x0, (o1 _).trans h.x1, (o1 _).trans h.x2, h.fr⟩

theorem RnAt.setM (h : RnAt W w K vT s gx t d e) (hg : w.grownBy w' (some K.bM)) (x : Pl) (hm : MapAt w' K.bM (metL s.M ++ [(plV x, .bool true)])) : RnAt W w' K vT { s with M := s.M ++ [x] } gx t d e := by
  have hne : some gx ≠ some K.bM := fun q => by injection q with q; exact h.fr.2.2.1 q
  exact ⟨h.rf.setM hg x hm, hg.cell h.x0 hne, hg.cell h.x1 hne, hg.cell h.x2 hne, h.fr⟩

theorem RnAt.grown {row : Option Nat} (h : RnAt W w K vT s gx t d e) (hg : w.grownBy w' row) (hr : ∀ g, row = some g → Fr W K vT g ∧ g ≠ gx) : RnAt W w' K vT s gx t d e := by
  have hne : some gx ≠ row := fun q => (hr gx q.symm).2 rfl
  exact ⟨h.rf.grown hg (fun g q => (hr g q).1), hg.cell h.x0 hne, hg.cell h.x1 hne, hg.cell h.x2 hne, h.fr⟩

theorem RnAt.drew (h : RnAt W w K vT s gx t d e) : RnAt W w.drew K vT s gx t d e := ⟨h.rf.drew, h.x0, h.x1, h.x2, h.fr⟩
theorem RnAt.drewN (h : RnAt W w K vT s gx t d e) (n : Nat) : RnAt W (w.drewN n) K vT s gx t d e := ⟨h.rf.drewN n, h.x0, h.x1, h.x2, h.fr⟩
end

/-- .. and the next place's box gy. -/
structure YnAt (W w : World) (K : RfK) (vT : Value) (s : RfS) (gx : Nat) (t d e : Int) (gy : Nat) (a b c : Int) : Prop where
  rn : RnAt W w K vT s gx t d e
  y0 : w.cell? ⟨gy, 0, none⟩ = some (.int .i64 a)
  y1 : w.cell? ⟨gy, 1, none⟩ = some (.int .i64 b)
  y2 : w.cell? ⟨gy, 2, none⟩ = some (.int .i64 c)
  yf : ∀ j, w.frozen? ⟨gy, j, none⟩ = false
  fr : Fr W K vT gy
  ne : gy ≠ gx

/-- .. and the far one's box gz. -/
structure ZnAt (W w : World) (K : RfK) (vT : Value) (s : RfS) (gx : Nat) (t d e : Int) (gy : Nat) (a b c : Int) (gz : Nat) (z : Int) : Prop where
  yn : YnAt W w K vT s gx t d e gy a b c
  z0 : w.cell? ⟨gz, 0, none⟩ = some (.int .i64 z)
  z1 : w.cell? ⟨gz, 1, none⟩ = some (.int .i64 b)
  z2 : w.cell? ⟨gz, 2, none⟩ = some (.int .i64 c)
  zf : ∀ j, w.frozen? ⟨gz, j, none⟩ = false
  fr : Fr W K vT gz
  nx : gz ≠ gx
  ny : gz ≠ gy

section
variable {W w w' : World} {K : RfK} {vT : Value} {s : RfS} {gx gy gz : Nat} {t d e a b c z : Int}

theorem YnAt.start (h : RnAt W w K vT s gx t d e) (a b c : Int) : YnAt W (w.alloc (.cells #[.int .i64 a, .int .i64 b, .int .i64 c] 49)) K vT s gx t d e w.heap.size a b c :=
  ⟨h.grown (World.grownBy_alloc w _ none) (fun g q => by cases q), by simp, by simp, by simp, fun j => by rw [World.frozen?_alloc_new], h.rf.fresh, by have := h.lx; omega⟩

theorem YnAt.ly (h : YnAt W w K vT s gx t d e gy a b c) : gy < w.heap.size := World.block_lt_of_cell? w _ h.y0

theorem YnAt.drew (h : YnAt W w K vT s gx t d e gy a b c) : YnAt W w.drew K vT s gx t d e gy a b c := ⟨h.rn.drew, h.y0, h.y1, h.y2, h.yf, h.fr, h.ne⟩

theorem YnAt.set2 (h : YnAt W w K vT s gx t d e gy a b c) (c' : Int) : YnAt W (w.setCell ⟨gy, 2, none⟩ (.int .i64 c')) K vT s gx t d e gy a b c' := by
  have hg := turned_set (p := ⟨gy, 2, none⟩) (turned_refl w (some gy)) (.inl rfl) (.int .i64 c')
  have o2 : ∀ j, j ≠ 2 → (w.setCell ⟨gy, 2, none⟩ (.int .i64 c')).cell? ⟨gy, j, none⟩ = w.cell? ⟨gy, j, none⟩ := fun j hj => World.cell?_setCell_other _ _ _ _ (by intro e; injection e with e1 e2; exact hj e2.symm)
  exact ⟨h.rn.grown hg (fun g q => by injection q with q; subst q; exact ⟨h.fr, h.ne⟩), (o2 0 (by omega)).trans h.y0, (o2 1 (by omega)).trans h.y1, World.cell?_setCell_same _ _ _ h.y2, fun j => by rw [World.frozen?_setCell]; exact h.yf j, h.fr, h.ne⟩

theorem ZnAt.start (h : YnAt W w K vT s gx t d e gy a b c) : ZnAt W (w.alloc (.cells #[.int .i64 a, .int .i64 b, .int .i64 c] 49)) K vT s gx t d e gy a b c w.heap.size a := by
  have hb := (Below.refl w.heap.size w).alloc (Nat.le_refl _) (.cells #[.int .i64 a, .int .i64 b, .int .i64 c] 49)
  have hc := (bcell hb).1; have hf := (bcell hb).2
  have ly := h.ly
  exact ⟨⟨h.rn.grown (World.grownBy_alloc w _ none) (fun g q => by cases q), (hc _ _ ly).trans h.y0, (hc _ _ ly).trans h.y1, (hc _ _ ly).trans h.y2, fun j => (hf _ _ ly).trans (h.yf j), h.fr, h.ne⟩,
    by simp, by simp, by simp, fun j => by rw [World.frozen?_alloc_new], h.rn.rf.fresh, by have := h.rn.lx; omega, by omega⟩

theorem ZnAt.drew (h : ZnAt W w K vT s gx t d e gy a b c gz z) : ZnAt W w.drew K vT s gx t d e gy a b c gz z := ⟨h.yn.drew, h.z0, h.z1, h.z2, h.zf, h.fr, h.nx, h.ny⟩

theorem ZnAt.set0 (h : ZnAt W w K vT s gx t d e gy a b c gz z) (z' : Int) : ZnAt W (w.setCell ⟨gz, 0, none⟩ (.int .i64 z')) K vT s gx t d e gy a b c gz z' := by
  have hg := turned_set (p := ⟨gz, 0, none⟩) (turned_refl w (some gz)) (.inl rfl) (.int .i64 z')
  have o1 : ∀ j, (w.setCell ⟨gz, 0, none⟩ (.int .i64 z')).cell? ⟨gy, j, none⟩ = w.cell? ⟨gy, j, none⟩ := fun j => World.cell?_setCell_other _ _ _ _ (by intro e; injection e with e1 e2; exact h.ny e1)
  have o2 : ∀ j, j ≠ 0 → (w.setCell ⟨gz, 0, none⟩ (.int .i64 z')).cell? ⟨gz, j, none⟩ = w.cell? ⟨gz, j, none⟩ := fun j hj => World.cell?_setCell_other _ _ _ _ (by intro e; injection e with e1 e2; exact hj e2.symm)
  exact ⟨⟨h.yn.rn.grown hg (fun g q => by injection q with q; subst q; exact ⟨h.fr, h.nx⟩), (o1 _).trans h.yn.y0, (o1 _).trans h.yn.y1, (o1 _).trans h.yn.y2, fun j => by rw [World.frozen?_setCell]; exact h.yn.yf j, h.yn.fr, h.yn.ne⟩,
    World.cell?_setCell_same _ _ _ h.z0, (o2 1 (by omega)).trans h.z1, (o2 2 (by omega)).trans h.z2, fun j => by rw [World.frozen?_setCell]; exact h.zf j, h.fr, h.nx, h.ny⟩
end

def farZ (n : Nat) (t : Nat) (a : Int) : Int := if (n : Int) < (t : Int) + 1 + a then n else (t : Int) + 1 + a

theorem news_0 {l : List (Int × Int)} {t : Nat} {d e : Int} (h : opAt l t = 0) : newsL l t d e = [] := by
  unfold newsL sucL nextN; rw [if_pos h]; rfl
theorem news_15 {l : List (Int × Int)} {t : Nat} {d e : Int} (h : opAt l t = 15) (ht : t < l.length) (ha : 0 ≤ arAt l t) : newsL l t d e = [((t : Int) + 1, leftI (opAt l t) d, e + emI (opAt l t)), (farZ l.length t (arAt l t), leftI (opAt l t) d, e + emI (opAt l t))] := by
  unfold newsL sucL nextN farZ
  rw [if_neg (by omega), if_pos h]
  simp only [List.map_cons, List.map_nil, List.cons.injEq, Prod.mk.injEq, and_true]
  refine ⟨by omega, ?_⟩
  split <;> omega
theorem news_16 {l : List (Int × Int)} {t : Nat} {d e : Int} (h : opAt l t = 16) (ht : t < l.length) (ha : 0 ≤ arAt l t) : newsL l t d e = [(farZ l.length t (arAt l t), leftI (opAt l t) d, e + emI (opAt l t))] := by
  unfold newsL sucL nextN farZ
  rw [if_neg (by omega), if_neg (by omega), if_pos h]
  simp only [List.map_cons, List.map_nil, List.cons.injEq, Prod.mk.injEq, and_true]
  split <;> omega
theorem news_else {l : List (Int × Int)} {t : Nat} {d e : Int} (h0 : opAt l t ≠ 0) (h15 : opAt l t ≠ 15) (h16 : opAt l t ≠ 16) (ht : t < l.length) : newsL l t d e = [((t : Int) + 1, leftI (opAt l t) d, e + emI (opAt l t))] := by
  unfold newsL sucL nextN
  rw [if_neg h0, if_neg h15, if_neg h16]
  simp only [List.map_cons, List.map_nil, List.cons.injEq, Prod.mk.injEq, and_true]
  omega

theorem plInfo : (Tryz.prog.info? 49).map (fun i => (i.zero, i.size, i.bytes)) = some (some (.agg #[.int .i64 0, .int .i64 0, .int .i64 0]), 3, 24) := by kernel_rfl

theorem three_new (w : World) (x : Pl) (t : TypeId) : ∀ j u, (plC x)[j]? = some u → (w.alloc (.cells #[.int .i64 x.1, .int .i64 x.2.1, .int .i64 x.2.2] t)).cell? ((⟨w.heap.size, 0, none⟩ : Addr).add j) = some u :=
  fun j u hj => new_cells w _ t j u (by simpa [plC] using hj)

theorem three_one (x : Pl) : ∀ u ∈ plC x, u.oneCell' = true := by
  intro u hu
  simp only [plC, List.mem_cons, List.not_mem_nil, or_false] at hu
  rcases hu with rfl | rfl | rfl <;> rfl

theorem not_good_none {l : List (Int × Int)} {q : Option CkS} (h : chk l = q) (hg : ¬ Good l) : q = none := by
  cases q with
  | none => rfl
  | some s => exact absurd (chk_some h).2.good hg

theorem sem_some {l : List (Int × Int)} {q : Option CkS} (hf : fitsL l = true) (h : chk l = q) {D : List Int} {mx em : Int} {u0 u1 : Bool} (hs : Sem l D mx em u0 u1) : ∃ s, q = some s ∧ s.D = D ∧ s.mx = mx ∧ s.em = em ∧ s.u0 = u0 ∧ s.u1 = u1 := by
  obtain ⟨s, h1, h2⟩ := chk_of_sem hf hs
  exact ⟨s, h ▸ h1, h2⟩

/-! ### The walk, cut into pieces: code from a region on, the frame at a cut -/

def startsAt (k : Nat) : Code → Bool
  | .region id _ _ => Nat.beq id k
  | .seq a _ => startsAt k a
  | _ => false

/-- The code from region k on, to its sequence's end. -/
def cutAt (k : Nat) : Code → Option Code
  | .region id ops b => bif Nat.beq id k then some (.region id ops b) else none
  | .seq a b => bif startsAt k a then some (.seq a b) else match cutAt k a with
    | some c => some c
    | none => cutAt k b
  | .block _ c => cutAt k c
  | .loop c => cutAt k c
  | .scope c => cutAt k c
  | .cond _ a b => match cutAt k a with
    | some c => some c
    | none => cutAt k b
  | _ => none

/-- Of the document's Check. -/
noncomputable def refCod (k : Nat) : Code := (Tryz.f6.body.bind (cutAt k)).getD .skip

/-- The frame at a cut: the program, the answer, what is known, what was met; two more by need. -/
structure FrAt (K : RfK) (x0 x5 x7 x8 : Value) (a : Act) : Prop where
  size : a.tmps.size = 194
  defers : a.defers = []
  t0 : a.tmps.getD 0 undef = x0
  t2 : a.tmps.getD 2 undef = .pointer (some ⟨K.g2, 0, none⟩)
  t3 : a.tmps.getD 3 undef = .pointer (some ⟨K.g3, 0, none⟩)
  t4 : a.tmps.getD 4 undef = .map (some K.bM)
  t5 : a.tmps.getD 5 undef = x5
  t7 : a.tmps.getD 7 undef = x7
  t8 : a.tmps.getD 8 undef = x8

set_option maxRecDepth 100000 in
theorem FrAt.open_ {K : RfK} {x0 x5 x7 x8 : Value} {a : Act} (h : FrAt K x0 x5 x7 x8 a) : ∃ u : Nat → Value, a = ⟨(x0 :: u 1 :: .pointer (some ⟨K.g2, 0, none⟩) :: .pointer (some ⟨K.g3, 0, none⟩) :: .map (some K.bM) :: x5 :: u 6 :: x7 :: x8 :: u 9 :: u 10 :: u 11 :: u 12 :: u 13 :: u 14 :: u 15 :: u 16 :: u 17 :: u 18 :: u 19 :: u 20 :: u 21 :: u 22 :: u 23 :: u 24 :: u 25 :: u 26 :: u 27 :: u 28 :: u 29 :: u 30 :: u 31 :: u 32 :: u 33 :: u 34 :: u 35 :: u 36 :: u 37 :: u 38 :: u 39 :: u 40 :: u 41 :: u 42 :: u 43 :: u 44 :: u 45 :: u 46 :: u 47 :: u 48 :: u 49 :: u 50 :: u 51 :: u 52 :: u 53 :: u 54 :: u 55 :: u 56 :: u 57 :: u 58 :: u 59 :: u 60 :: u 61 :: u 62 :: u 63 :: u 64 :: u 65 :: u 66 :: u 67 :: u 68 :: u 69 :: u 70 :: u 71 :: u 72 :: u 73 :: u 74 :: u 75 :: u 76 :: u 77 :: u 78 :: u 79 :: u 80 :: u 81 :: u 82 :: u 83 :: u 84 :: u 85 :: u 86 :: u 87 :: u 88 :: u 89 :: u 90 :: u 91 :: u 92 :: u 93 :: u 94 :: u 95 :: u 96 :: u 97 :: u 98 :: u 99 :: u 100 :: u 101 :: u 102 :: u 103 :: u 104 :: u 105 :: u 106 :: u 107 :: u 108 :: u 109 :: u 110 :: u 111 :: u 112 :: u 113 :: u 114 :: u 115 :: u 116 :: u 117 :: u 118 :: u 119 :: u 120 :: u 121 :: u 122 :: u 123 :: u 124 :: u 125 :: u 126 :: u 127 :: u 128 :: u 129 :: u 130 :: u 131 :: u 132 :: u 133 :: u 134 :: u 135 :: u 136 :: u 137 :: u 138 :: u 139 :: u 140 :: u 141 :: u 142 :: u 143 :: u 144 :: u 145 :: u 146 :: u 147 :: u 148 :: u 149 :: u 150 :: u 151 :: u 152 :: u 153 :: u 154 :: u 155 :: u 156 :: u 157 :: u 158 :: u 159 :: u 160 :: u 161 :: u 162 :: u 163 :: u 164 :: u 165 :: u 166 :: u 167 :: u 168 :: u 169 :: u 170 :: u 171 :: u 172 :: u 173 :: u 174 :: u 175 :: u 176 :: u 177 :: u 178 :: u 179 :: u 180 :: u 181 :: u 182 :: u 183 :: u 184 :: u 185 :: u 186 :: u 187 :: u 188 :: u 189 :: u 190 :: u 191 :: u 192 :: u 193 :: []).toArray, []⟩ := by
  obtain ⟨hn, hd, h0, h2, h3, h4, h5, h7, h8⟩ := h
  obtain ⟨u, hu⟩ : ∃ u : Nat → Value, u = fun k => a.tmps.getD k undef := ⟨_, rfl⟩
  have ha : a = ⟨(u 0 :: u 1 :: u 2 :: u 3 :: u 4 :: u 5 :: u 6 :: u 7 :: u 8 :: u 9 :: u 10 :: u 11 :: u 12 :: u 13 :: u 14 :: u 15 :: u 16 :: u 17 :: u 18 :: u 19 :: u 20 :: u 21 :: u 22 :: u 23 :: u 24 :: u 25 :: u 26 :: u 27 :: u 28 :: u 29 :: u 30 :: u 31 :: u 32 :: u 33 :: u 34 :: u 35 :: u 36 :: u 37 :: u 38 :: u 39 :: u 40 :: u 41 :: u 42 :: u 43 :: u 44 :: u 45 :: u 46 :: u 47 :: u 48 :: u 49 :: u 50 :: u 51 :: u 52 :: u 53 :: u 54 :: u 55 :: u 56 :: u 57 :: u 58 :: u 59 :: u 60 :: u 61 :: u 62 :: u 63 :: u 64 :: u 65 :: u 66 :: u 67 :: u 68 :: u 69 :: u 70 :: u 71 :: u 72 :: u 73 :: u 74 :: u 75 :: u 76 :: u 77 :: u 78 :: u 79 :: u 80 :: u 81 :: u 82 :: u 83 :: u 84 :: u 85 :: u 86 :: u 87 :: u 88 :: u 89 :: u 90 :: u 91 :: u 92 :: u 93 :: u 94 :: u 95 :: u 96 :: u 97 :: u 98 :: u 99 :: u 100 :: u 101 :: u 102 :: u 103 :: u 104 :: u 105 :: u 106 :: u 107 :: u 108 :: u 109 :: u 110 :: u 111 :: u 112 :: u 113 :: u 114 :: u 115 :: u 116 :: u 117 :: u 118 :: u 119 :: u 120 :: u 121 :: u 122 :: u 123 :: u 124 :: u 125 :: u 126 :: u 127 :: u 128 :: u 129 :: u 130 :: u 131 :: u 132 :: u 133 :: u 134 :: u 135 :: u 136 :: u 137 :: u 138 :: u 139 :: u 140 :: u 141 :: u 142 :: u 143 :: u 144 :: u 145 :: u 146 :: u 147 :: u 148 :: u 149 :: u 150 :: u 151 :: u 152 :: u 153 :: u 154 :: u 155 :: u 156 :: u 157 :: u 158 :: u 159 :: u 160 :: u 161 :: u 162 :: u 163 :: u 164 :: u 165 :: u 166 :: u 167 :: u 168 :: u 169 :: u 170 :: u 171 :: u 172 :: u 173 :: u 174 :: u 175 :: u 176 :: u 177 :: u 178 :: u 179 :: u 180 :: u 181 :: u 182 :: u 183 :: u 184 :: u 185 :: u 186 :: u 187 :: u 188 :: u 189 :: u 190 :: u 191 :: u 192 :: u 193 :: []).toArray, a.defers⟩ := by
    rw [hu]; exact frame_eq hn
  have e0 : u 0 = _ := (congrFun hu 0).trans h0
  have e2 : u 2 = _ := (congrFun hu 2).trans h2
  have e3 : u 3 = _ := (congrFun hu 3).trans h3
  have e4 : u 4 = _ := (congrFun hu 4).trans h4
  have e5 : u 5 = _ := (congrFun hu 5).trans h5
  have e7 : u 7 = _ := (congrFun hu 7).trans h7
  have e8 : u 8 = _ := (congrFun hu 8).trans h8
  rw [e0, e2, e3, e4, e5, e7, e8, hd] at ha
  exact ⟨u, ha⟩

/-- At the beginning of a round, n rounds at most to come. -/
structure RI (W : World) (l : List (Int × Int)) (K : RfK) (x0 : Value) (n : Nat) (a : Act) (w : World) : Prop where
  size : a.tmps.size = 194
  defers : a.defers = []
  t0 : a.tmps.getD 0 undef = x0
  t2 : a.tmps.getD 2 undef = .pointer (some ⟨K.g2, 0, none⟩)
  t3 : a.tmps.getD 3 undef = .pointer (some ⟨K.g3, 0, none⟩)
  t4 : a.tmps.getD 4 undef = .map (some K.bM)
  st : ∃ s : RfS, Hid (RfAt W w K (a.tmps.getD 5 undef) s) ∧ Hid (DInv l s.M s.T s.D s.mx s.em s.u0 s.u1) ∧ 2 * (1650 - s.M.length) + s.T.length ≤ n

theorem RI.fr {W : World} {l : List (Int × Int)} {K : RfK} {x0 : Value} {n : Nat} {a : Act} {w : World} (h : RI W l K x0 n a w) : FrAt K x0 (a.tmps.getD 5 undef) (a.tmps.getD 7 undef) (a.tmps.getD 8 undef) a :=
  ⟨h.size, h.defers, h.t0, h.t2, h.t3, h.t4, rfl, rfl, rfl⟩

/-- .. a smaller number of them. -/
def NX (W : World) (l : List (Int × Int)) (K : RfK) (x0 : Value) (n : Nat) (a : Act) (w : World) : Prop := ∃ m, m < n ∧ RI W l K x0 m a w

theorem NX.mk {W : World} {l : List (Int × Int)} {K : RfK} {x0 : Value} {n : Nat} {a : Act} {w : World} (m : Nat) (h : m < n) (h2 : RI W l K x0 m a w) : NX W l K x0 n a w := ⟨m, h, h2⟩

end Go.Proofs.YtfohdoahddommaaGreatDoor
