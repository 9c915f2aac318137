/- Layer 5, check: the document's Check, in memory. -/
import Derived.Test.YtfohdoahddommaaGreatDoorRefS
import Derived.Test.YtfohdoahddommaaGreatDoorRefM
import Derived.Test.YtfohdoahddommaaGreatDoorOwn
import Derived.Test.YtfohdoahddommaaGreatDoorCodA
import Derived.Maps.AppendAt
namespace Go.Proofs.YtfohdoahddommaaGreatDoor
open Go.RowKit
set_option linter.unusedVariables false
set_option maxRecDepth 100000

theorem take_any (o : Int) (w : World) (h0 : 0 ≤ o) (h1 : o ≤ 17) : Calls Tryz.prog 13 #[.int .i64 o] w fun e w' => e = .returned (.int .i64 (tkI o)) ∧ w' = w := by
  have : o = 0 ∨ o = 1 ∨ o = 2 ∨ o = 3 ∨ o = 4 ∨ o = 5 ∨ o = 6 ∨ o = 7 ∨ o = 8 ∨ o = 9 ∨ o = 10 ∨ o = 11 ∨ o = 12 ∨ o = 13 ∨ o = 14 ∨ o = 15 ∨ o = 16 ∨ o = 17 := by omega
  rcases this with rfl | rfl | rfl | rfl | rfl | rfl | rfl | rfl | rfl | rfl | rfl | rfl | rfl | rfl | rfl | rfl | rfl | rfl
  all_goals
    clear h0 h1
    go_enter Tryz.func13, Tryz.ntmps13
    go_wp2_with fail
    go_ret
    exact ⟨rfl, rfl⟩

theorem leave_any (o : Int) (w : World) (h0 : 0 ≤ o) (h1 : o ≤ 17) : Calls Tryz.prog 14 #[.int .i64 o] w fun e w' => e = .returned (.int .i64 (lvI o)) ∧ w' = w := by
  have : o = 0 ∨ o = 1 ∨ o = 2 ∨ o = 3 ∨ o = 4 ∨ o = 5 ∨ o = 6 ∨ o = 7 ∨ o = 8 ∨ o = 9 ∨ o = 10 ∨ o = 11 ∨ o = 12 ∨ o = 13 ∨ o = 14 ∨ o = 15 ∨ o = 16 ∨ o = 17 := by omega
  rcases this with rfl | rfl | rfl | rfl | rfl | rfl | rfl | rfl | rfl | rfl | rfl | rfl | rfl | rfl | rfl | rfl | rfl | rfl
  all_goals
    clear h0 h1
    go_enter Tryz.func14, Tryz.ntmps14
    go_wp2_with fail
    go_ret
    exact ⟨rfl, rfl⟩

/-- Where all stands: the answer, what is known, what was met, the depths. -/
structure RfK where
  g2 : Nat
  g3 : Nat
  bM : Nat
  gD : Nat
  base : Nat
  n : Nat
  c : Nat
  A : Option Addr

structure RfS where
  M : List Pl
  T : List Pl
  D : List Int
  mx : Int
  em : Int
  u0 : Bool
  u1 : Bool

def plC (x : Pl) : List Value := [.int .i64 x.1, .int .i64 x.2.1, .int .i64 x.2.2]

def metL (M : List Pl) : List (Value × Value) := M.map fun x => (plV x, .bool true)

structure RfAt (W w : World) (K : RfK) (vT : Value) (s : RfS) : Prop where
  r0 : w.cell? ⟨K.g2, 0, none⟩ = some (.slice none 0 0)
  r1 : w.cell? ⟨K.g2, 1, none⟩ = some (.int .i64 0)
  r2 : w.cell? ⟨K.g2, 2, none⟩ = some (.int .i64 0)
  r3 : w.cell? ⟨K.g2, 3, none⟩ = some (.bool false)
  r4 : w.cell? ⟨K.g2, 4, none⟩ = some (.bool false)
  r5 : w.cell? ⟨K.g2, 5, none⟩ = some (.bool false)
  rf : ∀ j, w.frozen? ⟨K.g2, j, none⟩ = false
  k0 : w.cell? ⟨K.g3, 0, none⟩ = some (.slice K.A K.n K.c)
  k1 : w.cell? ⟨K.g3, 1, none⟩ = some (.int .i64 s.mx)
  k2 : w.cell? ⟨K.g3, 2, none⟩ = some (.int .i64 s.em)
  k3 : w.cell? ⟨K.g3, 3, none⟩ = some (.bool s.u0)
  k4 : w.cell? ⟨K.g3, 4, none⟩ = some (.bool s.u1)
  k5 : w.cell? ⟨K.g3, 5, none⟩ = some (.bool true)
  kf : ∀ j, w.frozen? ⟨K.g3, j, none⟩ = false
  hA : 0 < K.n → K.A = some ⟨K.gD, 0, none⟩
  dl : s.D.length = K.n
  hc : K.n ≤ K.c
  cD : ∀ j, j < K.n → w.cell? ⟨K.gD, j, none⟩ = some (.int .i64 (s.D.getD j 0))
  fD : ∀ j, j < K.n → w.frozen? ⟨K.gD, j, none⟩ = false
  met : MapAt w K.bM (metL s.M)
  own : w.ownsRow K.base 49 3 vT s.T.length (s.T.flatMap plC)
  hT : ∀ g, vT.ownBlock = some g → g ≠ K.g2 ∧ g ≠ K.g3 ∧ g ≠ K.bM ∧ (0 < K.n → g ≠ K.gD)
  d23 : K.g2 ≠ K.g3
  d2M : K.g2 ≠ K.bM
  d3M : K.g3 ≠ K.bM
  dD : 0 < K.n → K.g2 ≠ K.gD ∧ K.g3 ≠ K.gD ∧ K.bM ≠ K.gD ∧ W.heap.size ≤ K.gD
  bel : Below W.heap.size W w
  b2 : W.heap.size ≤ K.g2
  b3 : W.heap.size ≤ K.g3
  bM : W.heap.size ≤ K.bM
  bb : W.heap.size ≤ K.base
  lb : K.base ≤ w.heap.size

/-- A block that holds none of it. -/
def Fr (W : World) (K : RfK) (vT : Value) (g : Nat) : Prop := g ≠ K.g2 ∧ g ≠ K.g3 ∧ g ≠ K.bM ∧ (0 < K.n → g ≠ K.gD) ∧ vT.ownBlock ≠ some g ∧ W.heap.size ≤ g

section
variable {W w w' : World} {K : RfK} {vT : Value} {s : RfS}

theorem RfAt.l2 (h : RfAt W w K vT s) : K.g2 < w.heap.size := World.block_lt_of_cell? w _ h.r0
theorem RfAt.l3 (h : RfAt W w K vT s) : K.g3 < w.heap.size := World.block_lt_of_cell? w _ h.k0
theorem RfAt.lD (h : RfAt W w K vT s) (hn : 0 < K.n) : K.gD < w.heap.size := World.block_lt_of_cell? w _ (h.cD 0 hn)
theorem RfAt.lT (h : RfAt W w K vT s) (g : Nat) (hg : vT.ownBlock = some g) : g < w.heap.size := (h.own.lt g hg).2

theorem RfAt.fresh (h : RfAt W w K vT s) : Fr W K vT w.heap.size := by
  have := h.l2; have := h.l3; have := h.met.lt; have h4 := fun q => h.lD q; have h5 := h.lT
  refine ⟨by omega, by omega, by omega, fun q => by have := h4 q; omega, fun q => by have := h5 _ q; omega, h.bel.size⟩

/-- All of it stays. -/
theorem RfAt.grown {row : Option Nat} (h : RfAt W w K vT s) (hg : w.grownBy w' row) (hr : ∀ g, row = some g → Fr W K vT g) : RfAt W w' K vT s := by
  have blk : ∀ x, x < w.heap.size → (∀ g, row = some g → g ≠ x) → w'.heap[x]? = w.heap[x]? := fun x hx hne => hg.block x hx (fun e => hne x e.symm rfl)
  have e2 := blk K.g2 h.l2 (fun g q => (hr g q).1)
  have e3 := blk K.g3 h.l3 (fun g q => (hr g q).2.1)
  have eM := blk K.bM h.met.lt (fun g q => (hr g q).2.2.1)
  have eD : 0 < K.n → w'.heap[K.gD]? = w.heap[K.gD]? := fun hn => blk K.gD (h.lD hn) (fun g q => (hr g q).2.2.2.1 hn)
  have c2 : ∀ j, w'.cell? ⟨K.g2, j, none⟩ = w.cell? ⟨K.g2, j, none⟩ := fun j => World.cell?_of_block e2
  have c3 : ∀ j, w'.cell? ⟨K.g3, j, none⟩ = w.cell? ⟨K.g3, j, none⟩ := fun j => World.cell?_of_block e3
  refine ⟨(c2 _).trans h.r0, (c2 _).trans h.r1, (c2 _).trans h.r2, (c2 _).trans h.r3, (c2 _).trans h.r4, (c2 _).trans h.r5, fun j => (World.frozen?_of_block e2).trans (h.rf j),
    (c3 _).trans h.k0, (c3 _).trans h.k1, (c3 _).trans h.k2, (c3 _).trans h.k3, (c3 _).trans h.k4, (c3 _).trans h.k5, fun j => (World.frozen?_of_block e3).trans (h.kf j), h.hA, h.dl, h.hc,
    fun j hj => (World.cell?_of_block (eD (by omega))).trans (h.cD j hj), fun j hj => (World.frozen?_of_block (eD (by omega))).trans (h.fD j hj), h.met.keep eM, ?_, h.hT, h.d23, h.d2M, h.d3M, h.dD, ?_, h.b2, h.b3, h.bM, h.bb, Nat.le_trans h.lb hg.size⟩
  · refine h.own.kept hg ?_
    cases hv : vT.ownBlock with
    | none => exact .inl rfl
    | some g => exact .inr (fun e => (hr g e.symm).2.2.2.2.1 hv)
  · exact h.bel.grown hg h.bel.size (fun g q => (hr g q).2.2.2.2.2)

theorem RfAt.alloc (h : RfAt W w K vT s) (o : Obj) : RfAt W (w.alloc o) K vT s := h.grown (World.grownBy_alloc w o none) (fun g q => by cases q)

theorem RfAt.drew (h : RfAt W w K vT s) : RfAt W w.drew K vT s := h.grown (row := none) ⟨rfl, rfl, rfl, Nat.le_refl _, fun _ _ _ => rfl⟩ (fun g q => by cases q)

theorem RfAt.drewN (h : RfAt W w K vT s) (n : Nat) : RfAt W (w.drewN n) K vT s := h.grown (row := none) ⟨rfl, rfl, rfl, Nat.le_refl _, fun _ _ _ => rfl⟩ (fun g q => by cases q)

theorem RfAt.setFr (h : RfAt W w K vT s) {g : Nat} (hg : Fr W K vT g) (i : Nat) (v : Value) : RfAt W (w.setCell ⟨g, i, none⟩ v) K vT s :=
  h.grown (row := some g) (turned_set (turned_refl w (some g)) (.inl rfl) v) (fun x q => by injection q with q; subst q; exact hg)

/-- What is known turns in one place. -/
theorem RfAt.setK (h : RfAt W w K vT s) (s' : RfS) (hM : s'.M = s.M) (hT' : s'.T = s.T) (hD : s'.D = s.D) (i : Nat) (v : Value) (i1 : 1 ≤ i) (i4 : i ≤ 4)
    (h1 : (if i = 1 then v else .int .i64 s.mx) = .int .i64 s'.mx) (h2 : (if i = 2 then v else .int .i64 s.em) = .int .i64 s'.em) (h3 : (if i = 3 then v else .bool s.u0) = .bool s'.u0) (h4 : (if i = 4 then v else .bool s.u1) = .bool s'.u1) :
    RfAt W (w.setCell ⟨K.g3, i, none⟩ v) K vT s' := by
  have hg := turned_set (p := ⟨K.g3, i, none⟩) (turned_refl w (some K.g3)) (.inl rfl) v
  have o1 : ∀ x j, x ≠ K.g3 → (w.setCell ⟨K.g3, i, none⟩ v).cell? ⟨x, j, none⟩ = w.cell? ⟨x, j, none⟩ := fun x j hx => World.cell?_setCell_other _ _ _ _ (by intro e; injection e with e1; exact hx e1.symm)
  have o2 : ∀ j, j ≠ i → (w.setCell ⟨K.g3, i, none⟩ v).cell? ⟨K.g3, j, none⟩ = w.cell? ⟨K.g3, j, none⟩ := fun j hj => World.cell?_setCell_other _ _ _ _ (by intro e; injection e with e1 e2; exact hj e2.symm)
  have key : ∀ j u u', w.cell? ⟨K.g3, j, none⟩ = some u → (if i = j then v else u) = u' → (w.setCell ⟨K.g3, i, none⟩ v).cell? ⟨K.g3, j, none⟩ = some u' := by
    intro j u u' hu hq
    by_cases hj : i = j
    · subst hj
      rw [if_pos rfl] at hq
      rw [World.cell?_setCell_same _ _ _ hu, hq]
    · rw [if_neg hj] at hq
      rw [o2 j (fun q => hj q.symm), hu, hq]
  have hf : ∀ x : Addr, (w.setCell ⟨K.g3, i, none⟩ v).frozen? x = w.frozen? x := fun x => World.frozen?_setCell _ _ _ _
  have n2 := h.d23
  refine ⟨(o1 _ _ n2).trans h.r0, (o1 _ _ n2).trans h.r1, (o1 _ _ n2).trans h.r2, (o1 _ _ n2).trans h.r3, (o1 _ _ n2).trans h.r4, (o1 _ _ n2).trans h.r5, fun j => by rw [hf]; exact h.rf j,
    (o2 0 (by omega)).trans h.k0, key 1 _ _ h.k1 h1, key 2 _ _ h.k2 h2, key 3 _ _ h.k3 h3, key 4 _ _ h.k4 h4, (o2 5 (by omega)).trans h.k5, fun j => by rw [hf]; exact h.kf j, h.hA, by rw [hD]; exact h.dl, h.hc,
    fun j hj => by rw [o1 _ _ (fun e => (h.dD (by omega)).2.1 e.symm), hD]; exact h.cD j hj, fun j hj => by rw [hf]; exact h.fD j hj, by rw [hM]; exact h.met.setCell h.d3M.symm _, ?_, h.hT, h.d23, h.d2M, h.d3M, h.dD, h.bel.setCell h.b3 _, h.b2, h.b3, h.bM, h.bb, by simpa using h.lb⟩
  rw [hT']
  refine h.own.kept hg ?_
  cases hv : vT.ownBlock with
  | none => exact .inl rfl
  | some g => exact .inr (fun e => by injection e with e; exact (h.hT g hv).2.1 e)

/-- One depth is written. -/
theorem RfAt.setD (h : RfAt W w K vT s) {t : Nat} (ht : t < K.n) (d : Int) : RfAt W (w.setCell ⟨K.gD, t, none⟩ (.int .i64 d)) K vT { s with D := s.D.set t d } := by
  have hg := turned_set (p := ⟨K.gD, t, none⟩) (turned_refl w (some K.gD)) (.inl rfl) (.int .i64 d)
  have o1 : ∀ x j, x ≠ K.gD → (w.setCell ⟨K.gD, t, none⟩ (.int .i64 d)).cell? ⟨x, j, none⟩ = w.cell? ⟨x, j, none⟩ := fun x j hx => World.cell?_setCell_other _ _ _ _ (by intro e; injection e with e1; exact hx e1.symm)
  have hf : ∀ x : Addr, (w.setCell ⟨K.gD, t, none⟩ (.int .i64 d)).frozen? x = w.frozen? x := fun x => World.frozen?_setCell _ _ _ _
  obtain ⟨n2, n3, nM, nb⟩ := h.dD (by omega)
  refine ⟨(o1 _ _ n2).trans h.r0, (o1 _ _ n2).trans h.r1, (o1 _ _ n2).trans h.r2, (o1 _ _ n2).trans h.r3, (o1 _ _ n2).trans h.r4, (o1 _ _ n2).trans h.r5, fun j => by rw [hf]; exact h.rf j,
    (o1 _ _ n3).trans h.k0, (o1 _ _ n3).trans h.k1, (o1 _ _ n3).trans h.k2, (o1 _ _ n3).trans h.k3, (o1 _ _ n3).trans h.k4, (o1 _ _ n3).trans h.k5, fun j => by rw [hf]; exact h.kf j, h.hA, by simpa using h.dl, h.hc,
    fun j hj => ?_, fun j hj => by rw [hf]; exact h.fD j hj, h.met.setCell nM _, ?_, h.hT, h.d23, h.d2M, h.d3M, h.dD, h.bel.setCell nb _, h.b2, h.b3, h.bM, h.bb, by simpa using h.lb⟩
  · simp only
    rw [getD_set, h.dl]
    by_cases hjt : j = t
    · subst hjt
      rw [if_pos ⟨rfl, ht⟩, World.cell?_setCell_same _ _ _ (h.cD j ht)]
    · rw [if_neg (fun q => hjt q.1), World.cell?_setCell_other _ _ _ _ (by intro e; injection e with e1 e2; exact hjt (by omega))]
      exact h.cD j hj
  · refine h.own.kept hg ?_
    cases hv : vT.ownBlock with
    | none => exact .inl rfl
    | some g => exact .inr (fun e => by injection e with e; exact (h.hT g hv).2.2.2 (by omega) e)

/-- One is met. -/
theorem RfAt.setM (h : RfAt W w K vT s) (hg : w.grownBy w' (some K.bM)) (x : Pl) (hm : MapAt w' K.bM (metL s.M ++ [(plV x, .bool true)])) : RfAt W w' K vT { s with M := s.M ++ [x] } := by
  have blk : ∀ y, y < w.heap.size → y ≠ K.bM → w'.heap[y]? = w.heap[y]? := fun y hy hne => hg.block y hy (fun e => by injection e with e; exact hne e)
  have e2 := blk K.g2 h.l2 h.d2M
  have e3 := blk K.g3 h.l3 h.d3M
  have eD : 0 < K.n → w'.heap[K.gD]? = w.heap[K.gD]? := fun hn => blk K.gD (h.lD hn) (fun e => (h.dD hn).2.2.1 e.symm)
  have c2 : ∀ j, w'.cell? ⟨K.g2, j, none⟩ = w.cell? ⟨K.g2, j, none⟩ := fun j => World.cell?_of_block e2
  have c3 : ∀ j, w'.cell? ⟨K.g3, j, none⟩ = w.cell? ⟨K.g3, j, none⟩ := fun j => World.cell?_of_block e3
  refine ⟨(c2 _).trans h.r0, (c2 _).trans h.r1, (c2 _).trans h.r2, (c2 _).trans h.r3, (c2 _).trans h.r4, (c2 _).trans h.r5, fun j => (World.frozen?_of_block e2).trans (h.rf j),
    (c3 _).trans h.k0, (c3 _).trans h.k1, (c3 _).trans h.k2, (c3 _).trans h.k3, (c3 _).trans h.k4, (c3 _).trans h.k5, fun j => (World.frozen?_of_block e3).trans (h.kf j), h.hA, h.dl, h.hc,
    fun j hj => (World.cell?_of_block (eD (by omega))).trans (h.cD j hj), fun j hj => (World.frozen?_of_block (eD (by omega))).trans (h.fD j hj), by simpa [metL] using hm, ?_, h.hT, h.d23, h.d2M, h.d3M, h.dD, ?_, h.b2, h.b3, h.bM, h.bb, Nat.le_trans h.lb hg.size⟩
  · refine h.own.kept hg ?_
    cases hv : vT.ownBlock with
    | none => exact .inl rfl
    | some g => exact .inr (fun e => by injection e with e; exact (h.hT g hv).2.2.1 e)
  · exact h.bel.grown hg h.bel.size (fun g q => by injection q with q; subst q; exact h.bM)

/-- One more is to do. -/
theorem RfAt.push (h : RfAt W w K vT s) {v' : Value} (hg : w.grownBy w' vT.ownBlock) (x : Pl) (hown : w'.ownsRow K.base 49 3 v' (s.T.length + 1) (s.T.flatMap plC ++ plC x)) (hat : v'.ownBlock = vT.ownBlock ∨ v'.ownBlock = some w.heap.size) :
    RfAt W w' K v' { s with T := s.T ++ [x] } := by
  have blk : ∀ y, y < w.heap.size → (∀ g, vT.ownBlock = some g → g ≠ y) → w'.heap[y]? = w.heap[y]? := fun y hy hne => hg.block y hy (fun e => hne y e.symm rfl)
  have e2 := blk K.g2 h.l2 (fun g q => (h.hT g q).1)
  have e3 := blk K.g3 h.l3 (fun g q => (h.hT g q).2.1)
  have eM := blk K.bM h.met.lt (fun g q => (h.hT g q).2.2.1)
  have eD : 0 < K.n → w'.heap[K.gD]? = w.heap[K.gD]? := fun hn => blk K.gD (h.lD hn) (fun g q => (h.hT g q).2.2.2 hn)
  have c2 : ∀ j, w'.cell? ⟨K.g2, j, none⟩ = w.cell? ⟨K.g2, j, none⟩ := fun j => World.cell?_of_block e2
  have c3 : ∀ j, w'.cell? ⟨K.g3, j, none⟩ = w.cell? ⟨K.g3, j, none⟩ := fun j => World.cell?_of_block e3
  have fr := h.fresh
  refine ⟨(c2 _).trans h.r0, (c2 _).trans h.r1, (c2 _).trans h.r2, (c2 _).trans h.r3, (c2 _).trans h.r4, (c2 _).trans h.r5, fun j => (World.frozen?_of_block e2).trans (h.rf j),
    (c3 _).trans h.k0, (c3 _).trans h.k1, (c3 _).trans h.k2, (c3 _).trans h.k3, (c3 _).trans h.k4, (c3 _).trans h.k5, fun j => (World.frozen?_of_block e3).trans (h.kf j), h.hA, h.dl, h.hc,
    fun j hj => (World.cell?_of_block (eD (by omega))).trans (h.cD j hj), fun j hj => (World.frozen?_of_block (eD (by omega))).trans (h.fD j hj), h.met.keep eM, ?_, fun g q => ?_, h.d23, h.d2M, h.d3M, h.dD, ?_, h.b2, h.b3, h.bM, h.bb, Nat.le_trans h.lb hg.size⟩
  · simp only [List.length_append, List.length_cons, List.length_nil, List.flatMap_append, List.flatMap_cons, List.flatMap_nil, List.append_nil]
    exact hown
  · rcases hat with q2 | q2
    · exact h.hT g (q2 ▸ q)
    · rw [q2] at q
      injection q with q
      subst q
      exact ⟨fr.1, fr.2.1, fr.2.2.1, fr.2.2.2.1⟩
  · exact h.bel.grown hg h.bel.size (fun g q => Nat.le_trans h.bb (h.own.lt g q).1)

/-- The last one is taken. -/
theorem RfAt.pop {g cap p : Nat} {T0 : List Pl} {x : Pl} (h : RfAt W w K (.slice (some ⟨g, 0, none⟩) (p + 1) cap) s) (hT : s.T = T0 ++ [x]) (hp : T0.length = p) : RfAt W w K (.slice (some ⟨g, 0, none⟩) p cap) { s with T := T0 } := by
  have hown : w.ownsRow K.base 49 3 (.slice (some ⟨g, 0, none⟩) p cap) T0.length (T0.flatMap plC) := by
    have h1 := h.own
    rw [hT] at h1
    have hlen : ∀ q : List Pl, (q.flatMap plC).length = q.length * 3 := by
      intro q
      induction q with
      | nil => rfl
      | cons y q ih => simp only [List.flatMap_cons, List.length_append, List.length_cons, plC, ih, List.length_nil]; omega
    rcases h1.2 with ⟨q, _⟩ | ⟨g', cap', cur, q, h2, h3, h4, h5, h6, h7⟩
    · cases q
    · injection q with q1 q2 q3
      injection q1 with q1
      injection q1 with q1
      subst q1; subst q3
      refine ⟨hlen T0, .inr ⟨g, cap, cur, by rw [hp], h2, h3, by omega, h5, h6, ?_⟩⟩
      rw [List.flatMap_append] at h7
      have h8 : (cur.toList.take ((T0 ++ [x]).length * 3)).take (T0.length * 3) = cur.toList.take (T0.length * 3) := by
        rw [List.take_take]
        congr 1
        simp only [List.length_append, List.length_cons, List.length_nil]
        omega
      rw [← h8, h7]
      exact List.take_left' (hlen T0)
  exact ⟨h.r0, h.r1, h.r2, h.r3, h.r4, h.r5, h.rf, h.k0, h.k1, h.k2, h.k3, h.k4, h.k5, h.kf, h.hA, h.dl, h.hc, h.cD, h.fD, h.met, hown, h.hT, h.d23, h.d2M, h.d3M, h.dD, h.bel, h.b2, h.b3, h.bM, h.bb, h.lb⟩

/-- The last one's cells. -/
theorem RfAt.last {g cap p : Nat} {T0 : List Pl} {x : Pl} (h : RfAt W w K (.slice (some ⟨g, 0, none⟩) (p + 1) cap) s) (hT : s.T = T0 ++ [x]) (hp : T0.length = p) :
    w.cell? ⟨g, p * 3, none⟩ = some (.int .i64 x.1) ∧ w.cell? ⟨g, p * 3 + 1, none⟩ = some (.int .i64 x.2.1) ∧ w.cell? ⟨g, p * 3 + 2, none⟩ = some (.int .i64 x.2.2) ∧ p + 1 ≤ cap := by
  have h1 := h.own
  rw [hT] at h1
  have hl : (T0 ++ [x]).length = p + 1 := by simp [hp]
  rw [hl] at h1
  have hlen : ∀ q : List Pl, (q.flatMap plC).length = q.length * 3 := by
    intro q
    induction q with
    | nil => rfl
    | cons y q ih => simp only [List.flatMap_cons, List.length_append, List.length_cons, plC, ih, List.length_nil]; omega
  have hc := h1.cellAt
  have hx : ∀ j, j < 3 → ((T0 ++ [x]).flatMap plC)[p * 3 + j]? = (plC x)[j]? := fun j hj => by
    rw [List.flatMap_append, List.getElem?_append_right (by rw [hlen, hp]; omega), hlen, hp]
    simp [List.flatMap_cons]
  refine ⟨?_, ?_, ?_, ?_⟩
  · rw [hc _ (by omega)]; exact hx 0 (by omega)
  · rw [hc _ (by omega)]; exact hx 1 (by omega)
  · rw [hc _ (by omega)]; exact hx 2 (by omega)
  · rcases h1.2 with ⟨q, _⟩ | ⟨g', cap', cur, q, h2, h3, h4, h5, h6, h7⟩
    · cases q
    · injection q with q1 q2 q3; omega

end

end Go.Proofs.YtfohdoahddommaaGreatDoor
