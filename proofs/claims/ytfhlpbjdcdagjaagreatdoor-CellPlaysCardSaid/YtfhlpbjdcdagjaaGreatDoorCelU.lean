/- Layer 7, cell: the document's Run of a table. -/
import Derived.Test.YtfhlpbjdcdagjaaGreatDoorHbc
import Derived.Test.YtfhlpbjdcdagjaaGreatDoorRunZ
import Derived.Test.YtfhlpbjdcdagjaaGreatDoorHaf
namespace Go.Proofs.YtfhlpbjdcdagjaaGreatDoor
open Go.RowKit Go.Lib Go.MapKept
open Go.Sort (grow)
set_option linter.unusedVariables false
set_option maxRecDepth 100000

def set4o (w : World) (g o : Nat) (a b c d : Int) : World := (((w.setCell ⟨g, o, none⟩ (.int .i64 a)).setCell ⟨g, o + 1, none⟩ (.int .i64 b)).setCell ⟨g, o + 2, none⟩ (.int .i64 c)).setCell ⟨g, o + 3, none⟩ (.int .i64 d)

theorem cell_set1 {w : World} {g o p : Nat} {v u : Value} (h : w.cell? ⟨g, o, none⟩ = some u) : (w.setCell ⟨g, o, none⟩ v).cell? ⟨g, p, none⟩ = if p = o then some v else w.cell? ⟨g, p, none⟩ := by
  by_cases e : p = o
  · subst e
    rw [if_pos rfl]
    exact World.cell?_setCell_same _ _ _ h
  · rw [if_neg e]
    exact World.cell?_setCell_other _ _ _ _ (fun q => e (by injection q with _ q; exact q.symm))

theorem cell_set4o {w : World} {g o p : Nat} {a b c d : Int} {u0 u1 u2 u3 : Value} (h0 : w.cell? ⟨g, o, none⟩ = some u0) (h1 : w.cell? ⟨g, o + 1, none⟩ = some u1) (h2 : w.cell? ⟨g, o + 2, none⟩ = some u2) (h3 : w.cell? ⟨g, o + 3, none⟩ = some u3) :
    (set4o w g o a b c d).cell? ⟨g, p, none⟩ = if p = o + 3 then some (.int .i64 d) else if p = o + 2 then some (.int .i64 c) else if p = o + 1 then some (.int .i64 b) else if p = o then some (.int .i64 a) else w.cell? ⟨g, p, none⟩ := by
  have s0 := fun p => cell_set1 (p := p) (v := .int .i64 a) h0
  have k1 : (w.setCell ⟨g, o, none⟩ (.int .i64 a)).cell? ⟨g, o + 1, none⟩ = some u1 := by rw [s0, if_neg (by omega)]; exact h1
  have s1 := fun p => cell_set1 (p := p) (v := .int .i64 b) k1
  have k2 : ((w.setCell ⟨g, o, none⟩ (.int .i64 a)).setCell ⟨g, o + 1, none⟩ (.int .i64 b)).cell? ⟨g, o + 2, none⟩ = some u2 := by rw [s1, if_neg (by omega), s0, if_neg (by omega)]; exact h2
  have s2 := fun p => cell_set1 (p := p) (v := .int .i64 c) k2
  have k3 : (((w.setCell ⟨g, o, none⟩ (.int .i64 a)).setCell ⟨g, o + 1, none⟩ (.int .i64 b)).setCell ⟨g, o + 2, none⟩ (.int .i64 c)).cell? ⟨g, o + 3, none⟩ = some u3 := by rw [s2, if_neg (by omega), s1, if_neg (by omega), s0, if_neg (by omega)]; exact h3
  unfold set4o
  rw [cell_set1 k3, s2, s1, s0]

theorem set4o_grown (w : World) (g o : Nat) (a b c d : Int) : w.grownBy (set4o w g o a b c d) (some g) :=
  turned_set (p := ⟨g, o + 3, none⟩) (turned_set (p := ⟨g, o + 2, none⟩) (turned_set (p := ⟨g, o + 1, none⟩) (turned_set (p := ⟨g, o, none⟩) (turned_refl w (some g)) (.inl rfl) (.int .i64 a)) (.inl rfl) (.int .i64 b)) (.inl rfl) (.int .i64 c)) (.inl rfl) (.int .i64 d)

theorem DTab.put {w : World} {g : Nat} {D : CTab} (h : DTab w g D) {n k : Nat} (hn : n < 8) (hk : k < 64) (a b c d : Int) : DTab (set4o w g (n * 256 + k * 4) a b c d) g (setT D n k ((a, b), (c, d))) := by
  obtain ⟨h0, h1, h2, h3⟩ := h.q n k hn hk
  have hc := fun p => cell_set4o (p := p) (a := a) (b := b) (c := c) (d := d) h0 h1 h2 h3
  refine ⟨by unfold set4o; simp; exact h.lt, fun n' k' hn' hk' => ?_, fun j => by unfold set4o; simp [h.f]⟩
  by_cases e : n' = n ∧ k' = k
  · obtain ⟨rfl, rfl⟩ := e
    rw [hc, hc, hc, hc, setT_same]
    refine ⟨?_, ?_, ?_, ?_⟩ <;> simp
  · have hs : setT D n k ((a, b), (c, d)) n' k' = D n' k' := setT_other D _ (fun q => e ⟨by omega, by omega⟩)
    have hne : ∀ i j : Nat, i < 4 → j < 4 → n' * 256 + k' * 4 + i ≠ n * 256 + k * 4 + j := fun i j hi hj => by omega
    obtain ⟨q0, q1, q2, q3⟩ := h.q n' k' hn' hk'
    rw [hs, hc, hc, hc, hc]
    refine ⟨?_, ?_, ?_, ?_⟩
    · rw [if_neg (by omega), if_neg (by omega), if_neg (by omega), if_neg (by omega)]; exact q0
    · rw [if_neg (by omega), if_neg (by omega), if_neg (by omega), if_neg (by omega)]; exact q1
    · rw [if_neg (by omega), if_neg (by omega), if_neg (by omega), if_neg (by omega)]; exact q2
    · rw [if_neg (by omega), if_neg (by omega), if_neg (by omega), if_neg (by omega)]; exact q3

/-- What a slot of the region holds. -/
inductive Ku
  | is (v : Value)
  | res
  | res0
  | box
  | any

def Ku.ok (N : Nat) (F : VmS) (k : Ku) (u : Value) (w : World) : Prop :=
  match k with
  | .is v => u = v
  | .res => ∃ A c, u = .tuple #[.slice A F.out.length c, .agg #[.int .i64 F.c0.1, .int .i64 F.c0.2, .int .i64 F.c1.1, .int .i64 F.c1.2], .int .i64 F.n] ∧ w.ownsRow N 31 2 (.slice A F.out.length c) F.out.length (insCells F.out)
  | .res0 => ∃ A c, u = .slice A F.out.length c ∧ w.ownsRow N 31 2 (.slice A F.out.length c) F.out.length (insCells F.out)
  | .box => ∃ g c0 c1 c2 c3, u = .pointer (some ⟨g, 0, none⟩) ∧ N ≤ g ∧ w.heap[g]? = some (.cells #[c0, c1, c2, c3] 32 (0, 0))
  | .any => True

/-- What an operation makes of the world. -/
def RunU (w w' : World) : Prop := Below w.heap.size w w' ∨ ∃ g c0 c1 c2 c3 d0 d1 d2 d3, w.heap[g]? = some (.cells #[c0, c1, c2, c3] 32 (0, 0)) ∧ w'.heap[g]? = some (.cells #[d0, d1, d2, d3] 32 (0, 0)) ∧ w.grownBy w' (some g)

theorem Ku.stable (N : Nat) (F : VmS) (k : Ku) (u : Value) (w w' : World) (h : k.ok N F u w) (hr : RunU w w') : k.ok N F u w' := by
  have hne : (31 : TypeId) ≠ 32 := by decide
  have own : ∀ vo, w.ownsRow N 31 2 vo F.out.length (insCells F.out) → w'.ownsRow N 31 2 vo F.out.length (insCells F.out) := by
    intro vo ho
    rcases hr with hb | ⟨g, c0, c1, c2, c3, d0, d1, d2, d3, h1, h2, hg⟩
    · exact own_below ho hb
    · exact own_typed ho h1 hne hg
  cases k with
  | is v => exact h
  | any => trivial
  | res =>
    obtain ⟨A, c, e, ho⟩ := h
    exact ⟨A, c, e, own _ ho⟩
  | res0 =>
    obtain ⟨A, c, e, ho⟩ := h
    exact ⟨A, c, e, own _ ho⟩
  | box =>
    obtain ⟨g, c0, c1, c2, c3, e, hN, hb⟩ := h
    have hlt := (Array.getElem?_eq_some_iff.1 hb).1
    rcases hr with hbl | ⟨g', a0, a1, a2, a3, d0, d1, d2, d3, h1, h2, hg⟩
    · exact ⟨g, c0, c1, c2, c3, e, hN, (hbl.block g hlt).trans hb⟩
    · by_cases q : g = g'
      · subst q
        exact ⟨g, d0, d1, d2, d3, e, hN, h2⟩
      · exact ⟨g, c0, c1, c2, c3, e, hN, (hg.block g hlt (fun e => q (by injection e))).trans hb⟩

/-- When the store (18) is done: the box holds the cells. -/
def RunK (N : Nat) (F : VmS) (listed : Array Bool) (a : Act) (w : World) : Prop :=
  listed.getD 18 false = true → ∃ g, a.tmps.getD 10 undef = .pointer (some ⟨g, 0, none⟩) ∧ N ≤ g ∧ w.heap[g]? = some (.cells #[.int .i64 F.c0.1, .int .i64 F.c0.2, .int .i64 F.c1.1, .int .i64 F.c1.2] 32 (0, 0))

theorem RunK.keep {N : Nat} {F : VmS} {listed : Array Bool} {a : Act} {w w' : World} {i : Nat} {dst : Option Tmp} {v : Value} (h : RunK N F listed a w) (hi : i ≠ 18) (hd : dst ≠ some 10) (hb : Below w.heap.size w w') : RunK N F (listed.setIfInBounds i true) (a.put dst v) w' := by
  intro hl
  rw [Array.getD_eq_getD_getElem?, Array.getElem?_setIfInBounds_ne hi, ← Array.getD_eq_getD_getElem?] at hl
  obtain ⟨g, h1, h2, h3⟩ := h hl
  exact ⟨g, by rw [getD_put_ne hd]; exact h1, h2, (hb.block g (Array.getElem?_eq_some_iff.1 h3).1).trans h3⟩

theorem RunK.first {N : Nat} {F : VmS} {listed : Array Bool} {a : Act} {w : World} {i : Nat} (hi : i ≠ 18) (h : listed.getD 18 false = false) : RunK N F (listed.setIfInBounds i true) a w := by
  intro hl
  rw [Array.getD_eq_getD_getElem?, Array.getElem?_setIfInBounds_ne hi, ← Array.getD_eq_getD_getElem?, h] at hl
  cases hl

theorem set4_block {w : World} {g : Nat} {c0 c1 c2 c3 : Value} {t : TypeId} (h : w.heap[g]? = some (.cells #[c0, c1, c2, c3] t (0, 0))) (a b c d : Int) :
    (set4 w g a b c d).heap[g]? = some (.cells #[.int .i64 a, .int .i64 b, .int .i64 c, .int .i64 d] t (0, 0)) := by
  have one : ∀ {w : World} {cs : Array Value} (j : Nat) (u : Value), w.heap[g]? = some (.cells cs t (0, 0)) → (w.setCell ⟨g, j, none⟩ u).heap[g]? = some (.cells (cs.setIfInBounds j u) t (0, 0)) := by
    intro w cs j u hb
    unfold World.setCell
    simp only [Array.getElem?_modify, if_true, hb, Option.map_some]
    rfl
  unfold set4
  have h1 := one 3 (.int .i64 d) (one 2 (.int .i64 c) (one 1 (.int .i64 b) (one 0 (.int .i64 a) h)))
  simpa using h1

theorem set4_grown (w : World) (g : Nat) (a b c d : Int) : w.grownBy (set4 w g a b c d) (some g) :=
  turned_set (p := ⟨g, 3, none⟩) (turned_set (p := ⟨g, 2, none⟩) (turned_set (p := ⟨g, 1, none⟩) (turned_set (p := ⟨g, 0, none⟩) (turned_refl w (some g)) (.inl rfl) (.int .i64 a)) (.inl rfl) (.int .i64 b)) (.inl rfl) (.int .i64 c)) (.inl rfl) (.int .i64 d)

theorem box_cells {w : World} {g : Nat} {c0 c1 c2 c3 : Value} {t : TypeId} (h : w.heap[g]? = some (.cells #[c0, c1, c2, c3] t (0, 0))) :
    g < w.heap.size ∧ w.cell? ⟨g, 0, none⟩ = some c0 ∧ w.cell? ⟨g, 1, none⟩ = some c1 ∧ w.cell? ⟨g, 2, none⟩ = some c2 ∧ w.cell? ⟨g, 3, none⟩ = some c3 ∧ ∀ j, w.frozen? ⟨g, j, none⟩ = false := by
  refine ⟨(Array.getElem?_eq_some_iff.1 h).1, ?_, ?_, ?_, ?_, fun j => ?_⟩
  all_goals first
    | (unfold World.cell?; rw [h]; rfl)
    | (unfold World.frozen?; rw [h]; simp)

def slotsU (vp : Value) (g gr : Nat) (n k : Nat) (x y : Int) (c : C4) (F : VmS) : List Ku :=
  [.is (.pointer (some ⟨g, 0, none⟩)), .is (.int .i64 n), .is vp, .any, .any, .any, .any, .is (.pointer (some ⟨gr, 0, none⟩)), .any, .res0, .box, .is (.int .i64 F.n), .any, .any, .res, .is vp, .is (.pointer (some ⟨gr, 1, none⟩)), .is (val x y), .is (.pointer (some ⟨g, 0, none⟩)), .is (.int .i64 n), .is (.pointer (some ⟨gr, 0, none⟩)), .is (.int .i64 k), .is (.pointer (some ⟨g, 0, none⟩)), .is (.pointer (some ⟨g, (n * 256), none⟩)), .is (.pointer (some ⟨g, (n * 256 + k * 4), none⟩)), .is (.agg #[.int .i64 c.1.1, .int .i64 c.1.2, .int .i64 c.2.1, .int .i64 c.2.2]), .res, .res0, .is (.agg #[.int .i64 F.c0.1, .int .i64 F.c0.2, .int .i64 F.c1.1, .int .i64 F.c1.2]), .is (.int .i64 F.n)]

/-- What the frame keeps. -/
structure FrU (gr : Nat) (v9 : Value) (a : Act) : Prop where
  size : a.tmps.size = 56
  defers : a.defers = []
  t7 : a.tmps.getD 7 undef = .pointer (some ⟨gr, 0, none⟩)
  t9 : a.tmps.getD 9 undef = v9

theorem FrU.open_ {gr : Nat} {v9 : Value} {a : Act} (h : FrU gr v9 a) : ∃ u : Nat → Value, a = ⟨(u 0 :: u 1 :: u 2 :: u 3 :: u 4 :: u 5 :: u 6 :: .pointer (some ⟨gr, 0, none⟩) :: u 8 :: v9 :: u 10 :: u 11 :: u 12 :: u 13 :: u 14 :: u 15 :: u 16 :: u 17 :: u 18 :: u 19 :: u 20 :: u 21 :: u 22 :: u 23 :: u 24 :: u 25 :: u 26 :: u 27 :: u 28 :: u 29 :: u 30 :: u 31 :: u 32 :: u 33 :: u 34 :: u 35 :: u 36 :: u 37 :: u 38 :: u 39 :: u 40 :: u 41 :: u 42 :: u 43 :: u 44 :: u 45 :: u 46 :: u 47 :: u 48 :: u 49 :: u 50 :: u 51 :: u 52 :: u 53 :: u 54 :: u 55 :: []).toArray, []⟩ := by
  obtain ⟨hn, hd, h7, h9⟩ := h
  obtain ⟨u, hu⟩ : ∃ u : Nat → Value, u = fun k => a.tmps.getD k undef := ⟨_, rfl⟩
  have ha : a = ⟨(u 0 :: u 1 :: u 2 :: u 3 :: u 4 :: u 5 :: u 6 :: u 7 :: u 8 :: u 9 :: u 10 :: u 11 :: u 12 :: u 13 :: u 14 :: u 15 :: u 16 :: u 17 :: u 18 :: u 19 :: u 20 :: u 21 :: u 22 :: u 23 :: u 24 :: u 25 :: u 26 :: u 27 :: u 28 :: u 29 :: u 30 :: u 31 :: u 32 :: u 33 :: u 34 :: u 35 :: u 36 :: u 37 :: u 38 :: u 39 :: u 40 :: u 41 :: u 42 :: u 43 :: u 44 :: u 45 :: u 46 :: u 47 :: u 48 :: u 49 :: u 50 :: u 51 :: u 52 :: u 53 :: u 54 :: u 55 :: []).toArray, a.defers⟩ := by
    rw [hu]; exact frame_eq hn
  have e7 : u 7 = _ := (congrFun hu 7).trans h7
  have e9 : u 9 = _ := (congrFun hu 9).trans h9
  rw [e7, e9, hd] at ha
  exact ⟨u, ha⟩

/-- What the document's Run leaves. -/
def RRunPost (w : World) (g : Nat) (D : CTab) (n k x y : Int) (l : List (Int × Int)) (e : Ending) (w' : World) : Prop :=
  ∃ A c B, e = .returned (.slice A (runO l n k x y (D n k)).length c) ∧ w'.ownsRow B 41 3 (.slice A (runO l n k x y (D n k)).length c) (runO l n k x y (D n k)).length (recCells (runO l n k x y (D n k))) ∧ DTab w' g (setT D n k (runC l n k x y (D n k))) ∧ w.grownBy w' (some g)

theorem ref_is {l : List (Int × Int)} {n k : Nat} {x y : Int} {c : C4} {F : VmS} (hok : okR n k x y = true) (hl : (chk l).isSome = true) (hF : runS l (x, y) ⟨[], [], c.1, c.2, 0⟩ = F) : runO l n k x y c = F.out.map (fun v => ((k : Int), v)) ∧ runC l n k x y c = ((F.c0.1, F.c0.2), (F.c1.1, F.c1.2)) := by
  have e : eachS l [(x, y)] ⟨[], [], c.1, c.2, 0⟩ = F := hF
  constructor
  · unfold runO runQ
    rw [if_pos ⟨hok, hl⟩, if_pos hl, e]
  · unfold runC runQ
    rw [if_pos ⟨hok, hl⟩, if_pos hl, e]

set_option maxHeartbeats 8000000 in
theorem rrun_any (g : Nat) (D : CTab) (hD : OkT D) (n k : Nat) (hn : n < 8) (hk : k < 64) (x y : Int) (hxy : rgtB (x, y) = true) (vp : Value) (l : List (Int × Int)) (hl : (chk l).isSome = true) (w : World) (h : DTab w g D) (hv : SlV w w.heap.size vp l) :
    Calls Tryz.prog 14 #[.pointer (some ⟨g, 0, none⟩), .int .i64 n, vp, recV k x y] w (RRunPost w g D n k x y l) := by
  have HT := hid h; have HV := hid hv
  have HNK := hid (And.intro hn hk)
  have hok : okR n k x y = true := by unfold okR nodeB keyB; rw [hxy]; simp; omega
  have hcr := hD.right n k
  have hcr' : rgtB (D n k).1 = true ∧ rgtB (D n k).2 = true := by unfold rgt4 at hcr; rw [Bool.and_eq_true] at hcr; exact hcr
  obtain ⟨hf, hgood, -⟩ := each_small (ins := []) (c0 := (D n k).1) (c1 := (D n k).2) hl (by rw [hcr'.1, hcr'.2]; rfl) rfl (by simp) 0
  obtain ⟨c, hc⟩ : ∃ c, D n k = c := ⟨_, rfl⟩
  obtain ⟨F, hF⟩ : ∃ F, runS l (x, y) ⟨[], [], c.1, c.2, 0⟩ = F := ⟨_, rfl⟩
  obtain ⟨e1, e2⟩ := ref_is hok hl hF
  have hln := run_right hl hxy hcr'.1 hcr'.2
  have HOL : Hid (F.out.length ≤ 4) := hid (by
    have := hln.1
    unfold runQ at this
    rw [if_pos hl, hc] at this
    rw [← hF]
    exact this)
  rw [hc] at hcr'
  have HREF : Hid (∀ w : World, SlV w w.heap.size vp l → Calls Tryz.prog 33 #[vp, val x y, .agg #[.int .i64 c.1.1, .int .i64 c.1.2, .int .i64 c.2.1, .int .i64 c.2.2]] w (RunPost w F)) := hid (fun w hw => refrun_any vp l hf hgood x y _ _ _ _ ((rgtB_iff _).1 hxy) ((rgtB_iff _).1 hcr'.1) ((rgtB_iff _).1 hcr'.2) w hw F (hid hF))
  have HR := hid (And.intro e1 e2); have HC := hid hc
  unfold RRunPost
  rw [hc, e1, e2]
  clear hok hcr hcr' hf hgood hF e1 e2 hc hxy hl hln hv hD
  obtain ⟨W, hW, HB, HX⟩ := box3 w k x y 41
  have HTW := hid (h.below HB.out); have HVW := hid ((HV.out.below HB.out).mono HB.out.size)
  have hgw := h.lt
  obtain ⟨gr, hgr⟩ : ∃ gr, w.heap.size = gr := ⟨_, rfl⟩
  rw [hgr] at HX
  have ⟨lt0, q0, q1, q2⟩ := HX.out
  have HGR := hid hgr
  go_enter Tryz.func14, Tryz.ntmps14
  go_wp2_with fail
  try rw [hgr]
  clear hW hgr h
  have hn8 : (n : Int) < 8 := by omega
  have hk64 : (k : Int) < 64 := by omega
  obtain ⟨z0, z1, z2, z3⟩ := HTW.out.q n k hn hk
  have ltg := HTW.out.lt
  rw [HC.out] at z0 z1 z2 z3
  refine region_listed (R := RunU) (T := fun j => ((slotsU vp g gr n k x y c F).getD j .any).ok W.heap.size F) (G := fun w' => Hid (Below W.heap.size W w')) (J := RunK W.heap.size F) (bs := [0, 1, 2, 7]) 56 (by kernel_rfl) rfl (by kernel_rfl) (fun k u w w' => Ku.stable _ F _ u w w') (hid (Below.refl _ _).drew) (fun hl => by simp at hl) ?_ ?_ ?_
  · refine List.forall_mem_cons.2 ⟨rfl, List.forall_mem_cons.2 ⟨rfl, List.forall_mem_cons.2 ⟨rfl, List.forall_mem_cons.2 ⟨rfl, ?_⟩⟩⟩⟩
    intro k hk; cases hk
  · repeat' (first | exact StepsL.nil | refine StepsL.cons ?_ ?_)
    all_goals refine ⟨guard_none rfl, ?_⟩
    all_goals intro listed K a w' hK hcl hlsz hlf hG hJ H
    all_goals obtain ⟨hc, hf⟩ := bcell hG.out
    all_goals first
      | (obtain ⟨⟨gb, d0, d1, d2, d3, h1, hgN, hblk⟩, h2, -⟩ := H; change a.tmps.getD _ undef = _ at h1; have g1 := h1; rw [Array.getD_eq_getD_getElem?] at g1; change a.tmps.getD _ undef = _ at h2; have g2 := h2; rw [Array.getD_eq_getD_getElem?] at g2; have ⟨lg, y0, y1, y2, y3, yf⟩ := box_cells hblk)
      | (obtain ⟨⟨Ao, co, h1, hown⟩, -⟩ := H; change a.tmps.getD _ undef = _ at h1; have g1 := h1; rw [Array.getD_eq_getD_getElem?] at g1)
      | (obtain ⟨h1, h2, h3, -⟩ := H; change a.tmps.getD _ undef = _ at h1; have g1 := h1; rw [Array.getD_eq_getD_getElem?] at g1; change a.tmps.getD _ undef = _ at h2; have g2 := h2; rw [Array.getD_eq_getD_getElem?] at g2; change a.tmps.getD _ undef = _ at h3; have g3 := h3; rw [Array.getD_eq_getD_getElem?] at g3)
      | (obtain ⟨h1, h2, -⟩ := H; change a.tmps.getD _ undef = _ at h1; have g1 := h1; rw [Array.getD_eq_getD_getElem?] at g1; change a.tmps.getD _ undef = _ at h2; have g2 := h2; rw [Array.getD_eq_getD_getElem?] at g2)
      | (obtain ⟨h1, -⟩ := H; change a.tmps.getD _ undef = _ at h1; have g1 := h1; rw [Array.getD_eq_getD_getElem?] at g1)
      | skip
    all_goals go_simp
    all_goals first
      | (go_at_call 33; refine (HREF.out _ ((HVW.out.below hG.out).mono hG.out.size)).mono ?_; (rintro e w'' ⟨Ao, co, rfl, ho, hb⟩; exact hK _ _ (fun d hd => by cases hd; exact ⟨Ao, co, rfl, own_mono ho (by have := hG.out.size; omega)⟩) (hid (hG.out.trans (hb.mono hG.out.size))) (.inl hb) (hJ.keep (by decide) (by simp) hb)))
      | exact hK undef (set4 w' gb F.c0.1 F.c0.2 F.c1.1 F.c1.2) (fun d hd => by cases hd) (hid (hG.out.grown (set4_grown w' gb F.c0.1 F.c0.2 F.c1.1 F.c1.2) hG.out.size (fun j hj => by injection hj with hj; omega))) (.inr ⟨gb, d0, d1, d2, d3, _, _, _, _, hblk, set4_block hblk F.c0.1 F.c0.2 F.c1.1 F.c1.2, set4_grown w' gb F.c0.1 F.c0.2 F.c1.1 F.c1.2⟩) (fun _ => ⟨gb, h1, hgN, set4_block hblk F.c0.1 F.c0.2 F.c1.1 F.c1.2⟩)
      | exact hK _ _ (fun d hd => by cases hd; exact rfl) hG (.inl (Below.refl _ _)) (hJ.keep (by decide) (by simp) (Below.refl _ _))
      | exact hK _ _ (fun d hd => by cases hd; exact ⟨Ao, co, rfl, hown⟩) hG (.inl (Below.refl _ _)) (hJ.keep (by decide) (by simp) (Below.refl _ _))
      | exact hK _ _ (fun d hd => by cases hd; exact ⟨_, _, _, _, _, rfl, hG.out.size, heap_alloc_new _ _⟩) (hid (hG.out.alloc hG.out.size _)) (.inl ((Below.refl _ _).alloc (Nat.le_refl _) _)) (RunK.first (by decide) (hcl.ahead (j := 18) (i := 16) (by kernel_rfl) hlf))
      | skip
  · intro listed a w' hd hn hG hall hJ hkeep hval
    have h0 : a.tmps.getD 0 undef = _ := hkeep 0 (by decide) (not_written (by kernel_rfl))
    have h1 : a.tmps.getD 1 undef = _ := hkeep 1 (by decide) (not_written (by kernel_rfl))
    have h7 : a.tmps.getD 7 undef = _ := hkeep 7 (by decide) (not_written (by kernel_rfl))
    obtain ⟨gb, h10, hgN, hblk⟩ := hJ (hall 18 (by decide))
    obtain ⟨Ao, co, h9, hown⟩ := hval 9 (by kernel_rfl)
    clear hval hkeep hall hJ
    obtain ⟨u, hu⟩ : ∃ u : Nat → Value, u = fun k => a.tmps.getD k undef := ⟨_, rfl⟩
    have ha : a = ⟨(u 0 :: u 1 :: u 2 :: u 3 :: u 4 :: u 5 :: u 6 :: u 7 :: u 8 :: u 9 :: u 10 :: u 11 :: u 12 :: u 13 :: u 14 :: u 15 :: u 16 :: u 17 :: u 18 :: u 19 :: u 20 :: u 21 :: u 22 :: u 23 :: u 24 :: u 25 :: u 26 :: u 27 :: u 28 :: u 29 :: u 30 :: u 31 :: u 32 :: u 33 :: u 34 :: u 35 :: u 36 :: u 37 :: u 38 :: u 39 :: u 40 :: u 41 :: u 42 :: u 43 :: u 44 :: u 45 :: u 46 :: u 47 :: u 48 :: u 49 :: u 50 :: u 51 :: u 52 :: u 53 :: u 54 :: u 55 :: []).toArray, a.defers⟩ := by
      rw [hu]; exact frame_eq hn
    have e0 : u 0 = .pointer (some ⟨g, 0, none⟩) := (congrFun hu 0).trans h0
    have e1 : u 1 = .int .i64 n := (congrFun hu 1).trans h1
    have e7 : u 7 = .pointer (some ⟨gr, 0, none⟩) := (congrFun hu 7).trans h7
    have e9 : u 9 = .slice Ao F.out.length co := (congrFun hu 9).trans h9
    have e10 : u 10 = .pointer (some ⟨gb, 0, none⟩) := (congrFun hu 10).trans h10
    rw [e0, e1, e7, e9, e10, hd] at ha
    clear hd hn h0 h1 h7 h9 h10 hu
    subst ha
    clear e0 e1 e7 e9 e10 z0 z1 z2 z3 q0 q1 q2 lt0
    have HG := hid hG.out
    have HBW := hid (HB.out.trans (hG.out.mono HB.out.size))
    have HBLK := hid hblk
    have HOWN := hid hown
    have HX3 := hid (HX.out.below hG.out)
    have HT3 := hid (HTW.out.below hG.out)
    have HGN := hid hgN
    have HGG := hid hgw
    have ltg3 := HT3.out.lt
    have ⟨lt3, q0, q1, q2⟩ := HX3.out
    obtain ⟨z0, z1, z2, z3⟩ := HT3.out.q n k HNK.out.1 HNK.out.2
    have zf := HT3.out.f
    rw [HC.out] at z0 z1 z2 z3
    have ⟨lgb, y0, y1, y2, y3, yf⟩ := box_cells HBLK.out
    clear hG hblk hown hgN HX HTW ltg hgw
    go_wp2_with fail
    refine cut_r (H := fun a w5 => FrU gr (.slice Ao F.out.length co) a ∧ w5 = (set4o w' g (n * 256 + k * 4) F.c0.1 F.c0.2 F.c1.1 F.c1.2).drew) ?_ fun hend => ?_
    · rintro a w5 ⟨hfr, hw5⟩
      obtain ⟨u2, rfl⟩ := hfr.open_
      have HD5 : Hid (DTab w5 g (setT D n k ((F.c0.1, F.c0.2), (F.c1.1, F.c1.2)))) := hid (by rw [hw5]; exact (HT3.out.put HNK.out.1 HNK.out.2 F.c0.1 F.c0.2 F.c1.1 F.c1.2).keep rfl (Nat.le_refl _))
      have hgr5 : w'.grownBy w5 (some g) := by rw [hw5]; exact turned_drew (set4o_grown _ _ _ _ _ _ _)
      have HX5 := hid (HX3.out.grown hgr5 (by have := HGG.out; have := HGR.out; omega))
      have HO5 := hid (HOWN.out.kept hgr5 (own_ne HOWN.out (by have := HGG.out; have := HB.out.size; omega)))
      have HSV := hid (SlV.of_own HO5.out)
      have HW5 : Hid (w.grownBy w5 (some g)) := hid ((turned_below HBW.out (some g)).andThen hgr5 (fun j hj => .inr hj))
      have HS5 : Hid (w.heap.size ≤ w5.heap.size) := hid HW5.out.size
      clear hw5 hgr5 hfr q0 q1 q2 z0 z1 z2 z3 zf y0 y1 y2 y3 yf lgb lt3 ltg3
      obtain ⟨i0, hi, hz0, hz1, hz2⟩ := info_parts recInfo
      go_wp2_with fail
      obtain ⟨B5, hB5⟩ : ∃ B, w5.heap.size = B := ⟨_, rfl⟩
      have HB5S := hid hB5
      rw [hB5] at HSV
      clear hB5
      go_loopw [12, 13] (fun v i wr => ∃ (j : Nat) (A : Option Addr) (c : Nat), j ≤ F.out.length ∧ v = .slice A j c ∧ i = .int .i64 j ∧ Hid (wr.ownsRow B5 41 3 (.slice A j c) j (recCells ((F.out.take j).map fun v => ((k : Int), v)))) ∧ Hid (Below B5 w5 wr)) (fun _ i _ => F.out.length - (RowKit.intOf i).toNat)
      case atStart => exact ⟨0, _, 0, Nat.zero_le _, rfl, rfl, hid (by rw [← HB5S.out]; exact own_lit0 w5 _ _), hid (by rw [← HB5S.out]; exact (Below.refl _ w5).alloc (Nat.le_refl _) _)⟩
      case round =>
        obtain ⟨j, A, cA, hj, rfl, rfl, HOA, HBA⟩ := hrel
        have HX6 := hid (HX5.out.below (HBA.out.mono (Nat.le_of_eq HB5S.out)))
        have ⟨lg, y0, y1, y2⟩ := HX6.out
        by_cases hlt : j < F.out.length
        · obtain ⟨Av', cv', hv', hcv, hrow⟩ := HSV.out
          injection hv' with e1 e2 e3
          obtain ⟨b1, o1, hA1, hb1, hcell⟩ := hrow (by omega)
          obtain rfl : Ao = some ⟨b1, o1, none⟩ := e1.trans hA1
          obtain ⟨ca, cb⟩ := hcell j hlt
          obtain ⟨x', y', hxy⟩ := pair_of (p := F.out.getD j (0, 0))
          rw [hxy] at ca cb
          simp only at ca cb
          have ca' := (HBA.out.cell (p := ⟨b1, o1 + j * 2, none⟩) hb1).trans ca
          have cb' := (HBA.out.cell (p := ⟨b1, o1 + j * 2 + 1, none⟩) hb1).trans cb
          have HXY' := hid hxy
          have HNR := hid (new_rec wr k x' y' 41)
          have hbs : B5 ≤ (wr.alloc (.cells #[.int .i64 k, .int .i64 x', .int .i64 y'] 41)).heap.size := by rw [World.size_alloc]; have := HBA.out.size; have := HB5S.out; omega
          have HO8 := hid (HOA.out.alloc (.cells #[.int .i64 k, .int .i64 x', .int .i64 y'] 41))
          have HBB8 : Hid (Below B5 w5 (wr.alloc (.cells #[.int .i64 k, .int .i64 x', .int .i64 y'] 41))) := hid (HBA.out.alloc (by have := HBA.out.size; have := HB5S.out; omega) _)
          have hj4 : j ≤ 4 := Nat.le_trans hj HOL.out
          have hlti : (j : Int) < (F.out.length : Int) := by omega
          clear ca cb hcell hrow hxy hA1 e1 e2 e3 hcv
          go_wp2_with fail
          go_region_law (first
            | (refine step_append_blk rfl (.tmp 45) (.tmp 53) 46 rfl B5 41 i0 (.agg #[.int .i64 0, .int .i64 0, .int .i64 0]) 3 24 Tryz.underlying46 hi hz0 hz1 hz2 rfl (by decide) (.slice A j cA) j (recCells ((F.out.take j).map fun v => ((k : Int), v))) (by simp [Act.eval]) HO8.out ⟨wr.heap.size, 0, none⟩ 1 1 (encR ((k : Int), (x', y'))) (by simp [Act.eval]) rfl HNR.out (encR_one _) (by unfold maxLen; omega) (by omega) hbs ?_; intro v' w9 hown9 hg9 _; obtain ⟨A9, c9, rfl⟩ := own_form hown9; have HO9 := hid hown9; have HG9 := hid hg9; clear hown9 hg9))
          all_goals
            have HBB9 := hid ((HBB8.out.drew).grown HG9.out hbs (fun z hz => by have := (HO8.out.lt _ hz).1; omega))
            go_wp2_with fail
            go_roundw
            case rel =>
              refine ⟨j + 1, A9, c9, by omega, rfl, by go_num, hid ?_, hid (by first | exact HBB9.out | exact HBB9.out.drew)⟩
              have e : (F.out.take (j + 1)).map (fun v => ((k : Int), v)) = (F.out.take j).map (fun v => ((k : Int), v)) ++ [((k : Int), (x', y'))] := by
                rw [List.take_succ_eq_append_getElem hlt, List.map_append]
                have := HXY'.out
                rw [List.getD_eq_getElem?_getD, List.getElem?_eq_getElem hlt] at this
                simp only [Option.getD_some] at this
                rw [this]
                rfl
              rw [e, recCells_snoc]
              first | exact HO9.out | exact own_below HO9.out ((Below.refl _ _).drew)
            case measure => simp [RowKit.intOf]; omega
        · have hje : j = F.out.length := by omega
          subst hje
          rw [List.take_length] at HOA
          go_wp2_with fail
          go_ret
          refine ⟨A, cA, B5, by rw [List.length_map]; rfl, by rw [List.length_map]; exact HOA.out, ?_, ?_⟩
          · exact HD5.out.below (HBA.out.mono (Nat.le_of_eq HB5S.out))
          · exact HW5.out.andThen (turned_below (HBA.out.mono (Nat.le_of_eq HB5S.out)) (some g)) (fun z hz => .inr hz)
    · go_region_law (fail)
      all_goals exact hend _ _ ⟨⟨rfl, rfl, rfl, rfl⟩, rfl⟩

end Go.Proofs.YtfhlpbjdcdagjaaGreatDoor
