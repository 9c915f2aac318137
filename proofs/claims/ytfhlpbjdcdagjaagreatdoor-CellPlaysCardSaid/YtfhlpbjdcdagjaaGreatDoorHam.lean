/- Layer 7, cell: a table in memory; Get, Set. -/
import Derived.Test.YtfhlpbjdcdagjaaGreatDoorHal
import Derived.Test.YtfhlpbjdcdagjaaGreatDoorHad
import Derived.Test.YtfhlpbjdcdagjaaGreatDoorHag
import Derived.StillTailTactics
import Derived.Test.YtfhlpbjdcdagjaaGreatDoorHaf
import Derived.ChangeKeysEq
import Derived.Shelf.SlMaps.Clone
import Derived.Maps.Range
import Derived.Test.YtfhlpbjdcdagjaaGreatDoorShelf
import Derived.Test.YtfhlpbjdcdagjaaGreatDoorShelfG
import Derived.Shelf.SlSortCmp.WholeK
import Derived.Shelf.SlSortCmp.QuietGrown
namespace Go.Proofs.YtfhlpbjdcdagjaaGreatDoor
open Go.RowKit Go.Lib Go.MapKept
open Go.ChangeMaps (setBlock)
set_option linter.unusedVariables false
set_option maxRecDepth 100000

/-- A table: the block of its struct, tb, holds its map, m. -/
structure TabAt (w : World) (tb : Nat) (m : Option Nat) (D : CTab) : Prop where
  lt : tb < w.heap.size
  blk : ∃ t, w.heap[tb]? = some (.cells #[.map m] t (0, 0))
  ok : OkT D
  none_ : m = none → D = noTab
  some_ : ∀ b, m = some b → b ≠ tb ∧ TabMap w b D

abbrev tabV (tb : Nat) : Value := .pointer (some ⟨tb, 0, none⟩)

section
variable {w w' : World} {tb : Nat} {m : Option Nat} {D : CTab}

theorem TabAt.cell (h : TabAt w tb m D) : w.cell? ⟨tb, 0, none⟩ = some (.map m) := by
  obtain ⟨t, hb⟩ := h.blk
  unfold World.cell?
  rw [hb]
  rfl

theorem TabAt.fr (h : TabAt w tb m D) : w.frozen? ⟨tb, 0, none⟩ = false := by
  obtain ⟨t, hb⟩ := h.blk
  unfold World.frozen?
  rw [hb]
  simp

theorem TabAt.keep (h : TabAt w tb m D) (hs : w.heap.size ≤ w'.heap.size) (h1 : w'.heap[tb]? = w.heap[tb]?) (h2 : ∀ b, m = some b → w'.heap[b]? = w.heap[b]?) : TabAt w' tb m D :=
  ⟨Nat.lt_of_lt_of_le h.lt hs, (by obtain ⟨t, hb⟩ := h.blk; exact ⟨t, h1.trans hb⟩), h.ok, h.none_, fun b hb => ⟨(h.some_ b hb).1, (h.some_ b hb).2.keep (h2 b hb)⟩⟩

theorem TabAt.mlt (h : TabAt w tb m D) : ∀ b, m = some b → b < w.heap.size := fun b hb => (h.some_ b hb).2.lt

theorem TabAt.below (h : TabAt w tb m D) (hb : Below w.heap.size w w') : TabAt w' tb m D :=
  h.keep hb.size (hb.block tb h.lt) (fun b e => hb.block b (h.mlt b e))

theorem TabAt.grown (h : TabAt w tb m D) {r : Nat} (hg : w.grownBy w' (some r)) (h1 : r ≠ tb) (h2 : m ≠ some r) : TabAt w' tb m D :=
  h.keep hg.size (hg.block tb h.lt (fun e => h1 (by injection e with e; exact e.symm))) (fun b e => hg.block b (h.mlt b e) (fun q => h2 (by rw [e, q])))

theorem TabAt.drew (h : TabAt w tb m D) : TabAt w.drew tb m D := h.keep (Nat.le_refl _) rfl (fun _ _ => rfl)

theorem TabAt.drewN (h : TabAt w tb m D) (n : Nat) : TabAt (w.drewN n) tb m D := h.keep (Nat.le_refl _) rfl (fun _ _ => rfl)

theorem TabAt.alloc (h : TabAt w tb m D) (o : Obj) : TabAt (w.alloc o) tb m D := h.below ((Below.refl _ w).alloc (Nat.le_refl _) o)

end

/-- What of it may turn at a Set. -/
def foot (tb : Nat) (m : Option Nat) : Nat := m.getD tb

def WfC (c : C4) : Prop := (I64 c.1.1 ∧ I64 c.1.2) ∧ (I64 c.2.1 ∧ I64 c.2.2)

theorem wf_i64 {n : Int} (h : I64 n) : (Lit.int .i64 n).wf = true := wf_small h.1 h.2

theorem rgt_i64 {x : Int × Int} (h : rgtB x = true) : I64 x.1 ∧ I64 x.2 := by
  unfold rgtB at h
  simp only [Bool.and_eq_true, decide_eq_true_eq] at h
  have := into_ge x.1; have := into_le x.1; have := into_ge x.2; have := into_le x.2
  unfold I64
  omega

theorem rgt4_wf {c : C4} (h : rgt4 c = true) : WfC c := by
  unfold rgt4 at h
  rw [Bool.and_eq_true] at h
  exact ⟨rgt_i64 h.1, rgt_i64 h.2⟩

section
variable {P : Program} {w : World} {ops : Array Oper} {rest : List Oper} {o : Oper} {a : Act} {Q : Exit → Act → World → Prop} {b : Nat} {D : CTab}

theorem wpList_tput (hg : o.guard = none) (m x v : Operand) (hop : o.op = Op.mapUpdate 70 m x v) (hm : a.eval m = .map (some b)) (h : TabMap w b D) (p : Int × Int) (c : C4) (hx : a.eval x = plcV p) (hv : a.eval v = c4V c) (hs : setB p.1 p.2 c = true) (hc : c ≠ z4)
    (hK : ∀ w', TabMap w' b (setT D p.1 p.2 c) → w.grownBy w' (some b) → wpList Tryz.prog ops Q rest (a.put o.dst undef) w') : wpList Tryz.prog ops Q (o :: rest) a w := by
  refine wpList_plain hg fun K' hK' => ?_
  obtain ⟨es, clk, L, h⟩ := h
  obtain ⟨w', hrun, r1, r2⟩ := h.put hs hc
  unfold Oper.wp
  simp [execOp, hop, hm, hx, hv, hrun, Result.andThen]
  exact hK' _ _ (hK w' r1 r2)

theorem wpList_tdel (hg : o.guard = none) (m x : Operand) (hop : o.op = Op.call { callee := Callee.builtin Builtin.delete, args := #[m, x], argTypes := #[70, 76] }) (hm : a.eval m = .map (some b)) (h : TabMap w b D) (p : Int × Int) (hx : a.eval x = plcV p) (hw : Wf2 p)
    (hK : ∀ w', TabMap w' b (setT D p.1 p.2 z4) → w.grownBy w' (some b) → wpList Tryz.prog ops Q rest (a.put o.dst (.tuple #[])) w') : wpList Tryz.prog ops Q (o :: rest) a w := by
  refine wpList_plain hg fun K' hK' => ?_
  obtain ⟨es, clk, L, h⟩ := h
  obtain ⟨es', L', hrun, r1, r2, _⟩ := h.del hw o.type
  unfold Oper.wp
  simp [execOp, hop, resolve, invoke, builtin, hm, hx, hrun, Result.andThen]
  exact hK' _ _ (hK _ ⟨es', clk, L', r1⟩ r2)

theorem wpList_tdel_nil (hg : o.guard = none) (m x : Operand) (hop : o.op = Op.call { callee := Callee.builtin Builtin.delete, args := #[m, x], argTypes := #[70, 76] }) (hm : a.eval m = .map none) (p : Int × Int) (hx : a.eval x = plcV p) (hw : Wf2 p)
    (hK : wpList Tryz.prog ops Q rest (a.put o.dst (.tuple #[])) w) : wpList Tryz.prog ops Q (o :: rest) a w := by
  refine wpList_plain hg fun K' hK' => ?_
  obtain ⟨i, hi⟩ := key_plc hw
  have hrun : (Builtin.delete_ #[70, 76] o.type #[.map none, plcV p]).run Tryz.prog w = .ok (.tuple #[]) w := by
    simp [Builtin.delete_, run_underlying Tryz.underlying70, keyedPlc.check w _ hi, Result.andThen]
  unfold Oper.wp
  simp [execOp, hop, resolve, invoke, builtin, hm, hx, hrun, Result.andThen]
  exact hK' _ _ hK

end

theorem inode_any (n : Int) (w : World) : Calls Tryz.prog 25 #[.int .i64 n] w fun e w' => e = .returned (.bool (nodeB n)) ∧ w' = w := by
  have hn : ∀ β, nodeB n = β → (decide (0 ≤ n) && decide (n < 8)) = β := fun β h => h
  by_cases h1 : 0 ≤ n
  · by_cases h2 : n < 8
    · have hb : nodeB n = true := by unfold nodeB; simp [h1, h2]
      rw [hb]
      clear hb hn
      go_enter Tryz.func25, Tryz.ntmps25
      go_wp2_with fail
      go_ret
      exact ⟨rfl, rfl⟩
    · have hb : nodeB n = false := by unfold nodeB; simp [h2]
      rw [hb]
      clear hb hn
      go_enter Tryz.func25, Tryz.ntmps25
      go_wp2_with fail
      go_ret
      exact ⟨rfl, rfl⟩
  · have hb : nodeB n = false := by unfold nodeB; simp [h1]
    rw [hb]
    clear hb hn
    go_enter Tryz.func25, Tryz.ntmps25
    go_wp2_with fail
    go_ret
    exact ⟨rfl, rfl⟩

theorem ikey_any (n : Int) (w : World) : Calls Tryz.prog 26 #[.int .i64 n] w fun e w' => e = .returned (.bool (keyB n)) ∧ w' = w := by
  by_cases h1 : 0 ≤ n
  · by_cases h2 : n < 64
    · have hb : keyB n = true := by unfold keyB; simp [h1, h2]
      rw [hb]
      clear hb
      go_enter Tryz.func26, Tryz.ntmps26
      go_wp2_with fail
      go_ret
      exact ⟨rfl, rfl⟩
    · have hb : keyB n = false := by unfold keyB; simp [h2]
      rw [hb]
      clear hb
      go_enter Tryz.func26, Tryz.ntmps26
      go_wp2_with fail
      go_ret
      exact ⟨rfl, rfl⟩
  · have hb : keyB n = false := by unfold keyB; simp [h1]
    rw [hb]
    clear hb
    go_enter Tryz.func26, Tryz.ntmps26
    go_wp2_with fail
    go_ret
    exact ⟨rfl, rfl⟩

/-- What is looked up in a table's map. -/
theorem TabAt.look {w : World} {tb : Nat} {m : Option Nat} {D : CTab} (h : TabAt w tb m D) {n k : Int} (hw : Wf2 (n, k)) : (Instr.lookup 70 (.map m) (.agg #[.int .i64 n, .int .i64 k]) false).run Tryz.prog w = .ok (c4V (D n k)) w := by
  cases m with
  | none =>
    have q := look_nil w (p := (n, k)) hw
    rw [h.none_ rfl]
    exact q
  | some b =>
    obtain ⟨es, clk, L, hm⟩ := (h.some_ b rfl).2
    have q := hm.look (p := (n, k)) hw
    exact q

set_option maxHeartbeats 1000000 in
theorem get_any (tb : Nat) (m : Option Nat) (D : CTab) (n k : Int) (hn : I64 n) (hk : I64 k) (w : World) (h : TabAt w tb m D) :
    Calls Tryz.prog 22 #[tabV tb, .int .i64 n, .int .i64 k] w fun e w' => e = .returned (c4V (D n k)) ∧ Below w.heap.size w w' := by
  obtain ⟨W, hW, HB, hl⟩ : ∃ W : World, w.alloc (.cells #[.int .i64 0, .int .i64 0, .int .i64 0, .int .i64 0] 32) = W ∧ Hid (Below w.heap.size w W) ∧ ∀ j, j < 4 → W.cell? ⟨w.heap.size, j, none⟩ = some (.int .i64 0) ∧ W.frozen? ⟨w.heap.size, j, none⟩ = false :=
    ⟨_, rfl, hid ((Below.refl _ w).alloc (Nat.le_refl _) _), fun j hj => ⟨by
      have : j = 0 ∨ j = 1 ∨ j = 2 ∨ j = 3 := by omega
      rcases this with rfl | rfl | rfl | rfl <;> simp [World.cell?_alloc_new], World.frozen?_alloc_new _ _ _ _⟩⟩
  have hc := (h.below HB.out).cell
  have hlk := (h.below HB.out).look (n := n) (k := k) ⟨wf_i64 hn, wf_i64 hk⟩
  obtain ⟨k0, f0⟩ := hl 0 (by omega); obtain ⟨k1, f1⟩ := hl 1 (by omega); obtain ⟨k2, f2⟩ := hl 2 (by omega); obtain ⟨k3, f3⟩ := hl 3 (by omega)
  obtain ⟨⟨⟨x, y⟩, ⟨z, u⟩⟩, hD⟩ : ∃ c, D n k = c := ⟨_, rfl⟩
  rw [hD] at hlk ⊢
  replace hlk : (Instr.lookup 70 (.map m) (.agg #[.int .i64 n, .int .i64 k]) false).run Tryz.prog W = .ok (.agg #[.int .i64 x, .int .i64 y, .int .i64 z, .int .i64 u]) W := hlk
  clear hD hn hk h hl
  go_enter Tryz.func22, Tryz.ntmps22
  go_wp2_with fail
  refine bodyPost_ret (v := .agg #[.int .i64 x, .int .i64 y, .int .i64 z, .int .i64 u]) (by simp [results, Tryz.results22, go_sem, k0, k1, k2, k3]) rfl ⟨rfl, ?_⟩
  exact (((HB.out.setCell (Nat.le_refl _) _).setCell (Nat.le_refl _) _).setCell (Nat.le_refl _) _).setCell (Nat.le_refl _) _

end Go.Proofs.YtfhlpbjdcdagjaaGreatDoor

namespace Go.Proofs.YtfhlpbjdcdagjaaGreatDoor
open Go.RowKit Go.Lib
set_option linter.unusedVariables false
set_option maxRecDepth 100000

theorem neq_val (a b c d : Int) (w : World) : (binOp .neq 31 (val a b) (val c d)).run Tryz.prog w = .ok (.bool (!(decide (a = c) && decide (b = d)))) w := by
  have h := eql_val a b c d w
  rw [run_eql_struct] at h
  rw [run_neq_struct]
  cases hq : (Op.equalIn 10000 31 (.agg #[.int .i64 a, .int .i64 b]) (.agg #[.int .i64 c, .int .i64 d])).run Tryz.prog w with
  | ok r w' =>
    rw [hq] at h
    simp only [Result.andThen] at h ⊢
    injection h with h1 h2
    injection h1 with h1
    rw [h1, h2]
  | halt x w' => rw [hq] at h; simp [Result.andThen] at h

theorem eqin_val (n : Nat) (a b c d : Int) (w : World) : (Op.equalIn (n + 2) 31 (val a b) (val c d)).run Tryz.prog w = .ok (decide (a = c) && decide (b = d)) w := by
  rw [run_equalIn_struct w (n + 1) 31 _ _ (by kernel_rfl) (by kernel_rfl)]
  have hf : (Tryz.prog.fieldsOf 31).toList = [{ name := "Re", type := 3, offset := 0, embedded := false, tag := "", pkgPath := "", byteOffset := 0 }, { name := "Im", type := 3, offset := 1, embedded := false, tag := "", pkgPath := "", byteOffset := 8 }] := by kernel_rfl
  rw [hf]
  by_cases h : a = c
  · by_cases h2 : b = d <;> simp [Op.eqFields, part, isAgg, go_sem, Tryz.underlying3, h, h2]
  · simp [Op.eqFields, part, isAgg, go_sem, Tryz.underlying3, h]

/-- Two arrays of two values. -/
theorem eql_arr (a b c d a' b' c' d' : Int) (w : World) : (binOp .eql 32 (.agg #[.int .i64 a, .int .i64 b, .int .i64 c, .int .i64 d]) (.agg #[.int .i64 a', .int .i64 b', .int .i64 c', .int .i64 d'])).run Tryz.prog w = .ok (.bool (decide (((a, b), (c, d)) = ((a', b'), (c', d'))))) w := by
  obtain ⟨i, hi, h0, h1, h2⟩ := info_parts valInfo
  have hc : Tryz.prog.cellsOf 31 = 2 := by kernel_rfl
  rw [run_eql_struct, run_equalIn_array w 9999 _ _ Tryz.underlying32 hi, hc, show List.range 2 = [0, 1] from rfl]
  have p0 : ∀ (x y z u : Int) (w : World), (part 31 #[.int .i64 x, .int .i64 y, .int .i64 z, .int .i64 u] 0).run Tryz.prog w = .ok (val x y) w := by
    intro x y z u w
    simp [part, isAgg, go_sem, sizeOf, typeInfo, hi, h1]
  have p2 : ∀ (x y z u : Int) (w : World), (part 31 #[.int .i64 x, .int .i64 y, .int .i64 z, .int .i64 u] 2).run Tryz.prog w = .ok (val z u) w := by
    intro x y z u w
    simp [part, isAgg, go_sem, sizeOf, typeInfo, hi, h1]
  have q : ∀ (a b c d : Int) (w : World), (Op.equalIn 9999 31 (val a b) (val c d)).run Tryz.prog w = .ok (decide (a = c) && decide (b = d)) w := fun a b c d w => eqin_val 9997 a b c d w
  have e2 : 1 * 2 = 2 := rfl
  have e0 : 0 * 2 = 0 := rfl
  simp only [Op.eqItems, Sem.run_bind, e0, e2, p0, p2, q, Result.andThen_ok, Sem.run_ite, Sem.run_pure]
  by_cases h : a = a' <;> by_cases h2 : b = b' <;> by_cases h3 : c = c' <;> by_cases h4 : d = d' <;> simp [h, h2, h3, h4, Result.andThen]

end Go.Proofs.YtfhlpbjdcdagjaaGreatDoor

namespace Go.Proofs.YtfhlpbjdcdagjaaGreatDoor
open Go.RowKit Go.Lib Go.MapKept
set_option linter.unusedVariables false
set_option maxRecDepth 100000

/-- A box of four cells. -/
structure Bx4 (w : World) (g : Nat) (x y z u : Int) : Prop where
  lt : g < w.heap.size
  q0 : w.cell? ⟨g, 0, none⟩ = some (.int .i64 x)
  q1 : w.cell? ⟨g, 1, none⟩ = some (.int .i64 y)
  q2 : w.cell? ⟨g, 2, none⟩ = some (.int .i64 z)
  q3 : w.cell? ⟨g, 3, none⟩ = some (.int .i64 u)
  f : ∀ j, w.frozen? ⟨g, j, none⟩ = false

theorem Bx4.below {w w' : World} {g : Nat} {x y z u : Int} (h : Bx4 w g x y z u) (hb : Below w.heap.size w w') : Bx4 w' g x y z u := by
  obtain ⟨hc, hf⟩ := bcell hb
  exact ⟨Nat.lt_of_lt_of_le h.lt hb.size, (hc _ _ h.lt).trans h.q0, (hc _ _ h.lt).trans h.q1, (hc _ _ h.lt).trans h.q2, (hc _ _ h.lt).trans h.q3, fun j => (hf _ _ h.lt).trans (h.f j)⟩

theorem Bx4.grown {w w' : World} {g r : Nat} {x y z u : Int} (h : Bx4 w g x y z u) (hb : w.grownBy w' (some r)) (hr : r ≠ g) : Bx4 w' g x y z u := by
  have hk := hb.block g h.lt (fun e => hr (by injection e with e; exact e.symm))
  have q := fun j => World.cell?_of_block (a := ⟨g, j, none⟩) hk
  exact ⟨Nat.lt_of_lt_of_le h.lt hb.size, (q 0).trans h.q0, (q 1).trans h.q1, (q 2).trans h.q2, (q 3).trans h.q3, fun j => (World.frozen?_of_block (a := ⟨g, j, none⟩) hk).trans (h.f j)⟩

theorem box4 (w : World) (x y z u : Int) (t : TypeId) : ∃ W : World, w.alloc (.cells #[.int .i64 x, .int .i64 y, .int .i64 z, .int .i64 u] t) = W ∧ Hid (Below w.heap.size w W) ∧ Hid (Bx4 W w.heap.size x y z u) :=
  ⟨_, rfl, hid ((Below.refl _ w).alloc (Nat.le_refl _) _), hid ⟨by simp, by simp [World.cell?_alloc_new], by simp [World.cell?_alloc_new], by simp [World.cell?_alloc_new], by simp [World.cell?_alloc_new], fun j => World.frozen?_alloc_new _ _ _ _⟩⟩

/-- A box of two. -/
structure Bx2 (w : World) (g : Nat) (x y : Int) : Prop where
  lt : g < w.heap.size
  q0 : w.cell? ⟨g, 0, none⟩ = some (.int .i64 x)
  q1 : w.cell? ⟨g, 1, none⟩ = some (.int .i64 y)
  f : ∀ j, w.frozen? ⟨g, j, none⟩ = false

theorem Bx2.below {w w' : World} {g : Nat} {x y : Int} (h : Bx2 w g x y) (hb : Below w.heap.size w w') : Bx2 w' g x y := by
  obtain ⟨hc, hf⟩ := bcell hb
  exact ⟨Nat.lt_of_lt_of_le h.lt hb.size, (hc _ _ h.lt).trans h.q0, (hc _ _ h.lt).trans h.q1, fun j => (hf _ _ h.lt).trans (h.f j)⟩

theorem Bx2.grown {w w' : World} {g r : Nat} {x y : Int} (h : Bx2 w g x y) (hb : w.grownBy w' (some r)) (hr : r ≠ g) : Bx2 w' g x y := by
  have hk := hb.block g h.lt (fun e => hr (by injection e with e; exact e.symm))
  have q := fun j => World.cell?_of_block (a := ⟨g, j, none⟩) hk
  exact ⟨Nat.lt_of_lt_of_le h.lt hb.size, (q 0).trans h.q0, (q 1).trans h.q1, fun j => (World.frozen?_of_block (a := ⟨g, j, none⟩) hk).trans (h.f j)⟩

theorem box2 (w : World) (x y : Int) (t : TypeId) : ∃ W : World, w.alloc (.cells #[.int .i64 x, .int .i64 y] t) = W ∧ Hid (Below w.heap.size w W) ∧ Hid (Bx2 W w.heap.size x y) :=
  ⟨_, rfl, hid ((Below.refl _ w).alloc (Nat.le_refl _) _), hid ⟨by simp, by simp [World.cell?_alloc_new], by simp [World.cell?_alloc_new], fun j => World.frozen?_alloc_new _ _ _ _⟩⟩

/-- What Set makes of a table. -/
def SetPost (w : World) (tb : Nat) (m : Option Nat) (D : CTab) (n k : Int) (c : C4) (e : Ending) (w' : World) : Prop :=
  (setB n k c = false ∧ e = .returned (.int .i64 1) ∧ Below w.heap.size w w') ∨
  (setB n k c = true ∧ e = .returned (.int .i64 0) ∧ ∃ m', TabAt w' tb m' (setT D n k c) ∧ w.grownBy w' (some (foot tb m)) ∧ (m' = m ∨ (m = none ∧ ∃ b, m' = some b ∧ w.heap.size ≤ b)))

theorem setpost_no {w w' : World} {tb : Nat} {m : Option Nat} {D : CTab} {n k : Int} {c : C4} (h : setB n k c = false) (hb : Below w.heap.size w w') : SetPost w tb m D n k c (.returned (.int .i64 1)) w' := .inl ⟨h, rfl, hb⟩

theorem c4_zero (x y z u : Int) : decide (((x, y), (z, u)) = (((0 : Int), (0 : Int)), ((0 : Int), (0 : Int)))) = decide ((((x, y), (z, u)) : C4) = z4) := rfl

/-- The map that is there was turned. -/
theorem TabAt.of_map {w w' : World} {tb b : Nat} {D D' : CTab} (h : TabAt w tb (some b) D) (hg : w.grownBy w' (some b)) (hm : TabMap w' b D') : TabAt w' tb (some b) D' := by
  have hne := (h.some_ b rfl).1
  have hk := hg.block tb h.lt (fun e => hne (by injection e with e; exact e.symm))
  obtain ⟨t, hb⟩ := h.blk
  exact ⟨Nat.lt_of_lt_of_le h.lt hg.size, ⟨t, hk.trans hb⟩, hm.ok, fun e => (by cases e), fun b' e => by injection e with e; subst e; exact ⟨hne, hm⟩⟩

/-- A table that had no map has one. -/
theorem TabAt.new_map {w : World} {tb : Nat} {D : CTab} (h : TabAt w tb none D) : TabAt ((w.alloc (.map #[] 0)).setCell ⟨tb, 0, none⟩ (.map (some w.heap.size))) tb (some w.heap.size) D ∧ w.grownBy ((w.alloc (.map #[] 0)).setCell ⟨tb, 0, none⟩ (.map (some w.heap.size))) (some tb) := by
  have ha := h.alloc (.map #[] 0)
  have hlt := h.lt
  have hne : w.heap.size ≠ tb := by omega
  refine ⟨⟨by simp; omega, ?_, h.ok, fun e => (by cases e), fun b e => ?_⟩, turned_set (turned_alloc (turned_refl w _) _) (.inl rfl) _⟩
  · obtain ⟨t, hb⟩ := ha.blk
    refine ⟨t, ?_⟩
    unfold World.setCell
    simp only [Array.getElem?_modify, if_true, hb, Option.map_some]
    rfl
  · injection e with e
    subst e
    refine ⟨hne, ?_⟩
    rw [h.none_ rfl]
    exact (TabMap.new w).keep (Below.heap_setCell _ _ _ _ hne)

set_option maxHeartbeats 2000000 in
theorem set_any (tb : Nat) (m : Option Nat) (D : CTab) (n k x y z u : Int) (hn : I64 n) (hk : I64 k) (hxy : I64 x ∧ I64 y) (hzu : I64 z ∧ I64 u) (w : World) (h : TabAt w tb m D) :
    Calls Tryz.prog 9 #[tabV tb, .int .i64 n, .int .i64 k, .agg #[.int .i64 x, .int .i64 y, .int .i64 z, .int .i64 u]] w (SetPost w tb m D n k ((x, y), (z, u))) := by
  have HT := hid h
  have HN := hid hn; have HK := hid hk; have HXY := hid hxy; have HZU := hid hzu
  clear h hn hk hxy hzu
  obtain ⟨W, hW, HB, HX⟩ := box4 w x y z u 32
  have ⟨_, q0, q1, q2, q3, _⟩ := HX.out
  go_enter Tryz.func9, Tryz.ntmps9
  go_wp2_with fail
  clear hW
  refine (inode_any n W).mono ?_
  rintro e w1 ⟨rfl, rfl⟩
  obtain ⟨β1, h1⟩ : ∃ β, nodeB n = β := ⟨_, rfl⟩
  rw [h1]
  have H1 := hid h1
  clear h1
  cases β1 with
  | false =>
    go_wp2_with fail
    go_ret
    exact setpost_no (by unfold setB; rw [H1.out]; rfl) HB.out
  | true =>
    go_wp2_with fail
    refine (ikey_any k w1).mono ?_
    rintro e w2 ⟨rfl, rfl⟩
    obtain ⟨β2, h2⟩ : ∃ β, keyB k = β := ⟨_, rfl⟩
    rw [h2]
    have H2 := hid h2
    clear h2
    cases β2 with
    | false =>
      go_wp2_with fail
      go_ret
      exact setpost_no (by unfold setB; rw [H2.out, Bool.and_false]; rfl) HB.out
    | true =>
      go_wp2_with fail
      refine (right_any x y HXY.out.1 HXY.out.2 w2).mono ?_
      rintro e w3 ⟨rfl, hb⟩
      obtain ⟨β3, h3⟩ : ∃ β, (decide (x = into x) && decide (y = into y)) = β := ⟨_, rfl⟩
      rw [h3]
      have H3 : Hid (rgtB (x, y) = β3) := hid h3
      have HB3 := hid (HB.out.trans (hb.mono HB.out.size))
      have HX3 := hid (HX.out.below hb)
      have ⟨_, q0, q1, q2, q3, _⟩ := HX3.out
      clear h3 hb
      cases β3 with
      | false =>
        go_wp2_with fail
        go_ret
        exact setpost_no (by unfold setB rgt4; simp only [H3.out]; simp) HB3.out
      | true =>
        go_wp2_with fail
        refine (right_any z u HZU.out.1 HZU.out.2 w3).mono ?_
        rintro e w4 ⟨rfl, hb⟩
        obtain ⟨β4, h4⟩ : ∃ β, (decide (z = into z) && decide (u = into u)) = β := ⟨_, rfl⟩
        rw [h4]
        have H4 : Hid (rgtB (z, u) = β4) := hid h4
        have HB4 := hid (HB3.out.trans (hb.mono HB3.out.size))
        have HX4 := hid (HX3.out.below hb)
        clear h4 hb q0 q1 q2 q3
        cases β4 with
        | false =>
          go_wp2_with fail
          go_ret
          exact setpost_no (by unfold setB rgt4; simp only [H4.out]; simp) HB4.out
        | true =>
          have HS : Hid (setB n k ((x, y), (z, u)) = true) := hid (by unfold setB rgt4; simp only [H1.out, H2.out, H3.out, H4.out]; rfl)
          have HW := hid (wf_place H1.out H2.out)
          obtain ⟨W5, hW5, HB5, HP5⟩ := box2 w4 n k 76
          have HX5 := hid (HX4.out.below HB5.out)
          have HT5 := hid (HT.out.below (HB4.out.trans (HB5.out.mono HB4.out.size)))
          have HBB := hid (HB4.out.trans (HB5.out.mono HB4.out.size))
          obtain ⟨g, hg⟩ : ∃ g, w.heap.size = g := ⟨_, rfl⟩
          obtain ⟨g2, hg2⟩ : ∃ g, w4.heap.size = g := ⟨_, rfl⟩
          have HG : Hid (tb < g ∧ g ≤ g2 ∧ (∀ b, m = some b → b < g)) := hid ⟨by rw [← hg]; exact HT.out.lt, by rw [← hg, ← hg2]; exact HB4.out.size, by rw [← hg]; exact HT.out.mlt⟩
          rw [hg] at HX5
          rw [hg2] at HP5
          have ⟨_, q0, q1, q2, q3, _⟩ := HX5.out
          have ⟨_, p0, p1, _⟩ := HP5.out
          have hc := HT5.out.cell
          have hfr := HT5.out.fr
          obtain ⟨β5, h5⟩ : ∃ β, decide ((((x, y), (z, u)) : C4) = z4) = β := ⟨_, rfl⟩
          have hq : ∀ w : World, (binOp .eql 32 (.agg #[.int .i64 x, .int .i64 y, .int .i64 z, .int .i64 u]) (.agg #[.int .i64 0, .int .i64 0, .int .i64 0, .int .i64 0])).run Tryz.prog w = .ok (.bool β5) w := fun w => by rw [eql_arr, c4_zero, h5]
          have H5 := hid h5
          have HGG := hid hg
          clear h5
          rw [hg]
          cases β5 with
          | true =>
            have HZ : Hid ((((x, y), (z, u)) : C4) = z4) := hid (of_decide_eq_true H5.out)
            go_wp2_with fail
            go_still_tail 5, (by kernel_rfl)
            change wpList _ _ _ _ _ W5.drew
            have HT6 := hid HT5.out.drew
            have HB6 := hid HBB.out.drew
            clear hc hfr q0 q1 q2 q3 p0 p1 hq
            generalize W5.drew = W6 at HT6 HB6 ⊢
            cases m with
            | none =>
              refine wpList_tdel_nil rfl (.tmp 43) (.tmp 44) rfl rfl (n, k) rfl HW.out ?_
              go_wp2_with fail
              go_ret
              refine .inr ⟨HS.out, rfl, none, ?_, turned_below HB6.out _, .inl rfl⟩
              rw [HZ.out, HT6.out.none_ rfl]
              have := HT6.out
              have e : setT noTab n k z4 = noTab := setT_id noTab n k
              rw [e]
              rw [HT6.out.none_ rfl] at this
              exact this
            | some b =>
              refine wpList_tdel rfl (.tmp 43) (.tmp 44) rfl rfl (HT6.out.some_ b rfl).2 (n, k) rfl HW.out ?_
              intro w7 hm7 hg7
              have HM7 := hid (HT6.out.of_map hg7 hm7)
              have HG7 := hid (turned_trans (turned_below HB6.out (some b)) hg7)
              clear hm7 hg7
              go_wp2_with fail
              go_ret
              exact .inr ⟨HS.out, rfl, some b, by rw [HZ.out]; exact HM7.out, HG7.out, .inl rfl⟩
          | false =>
            have HZ : Hid ((((x, y), (z, u)) : C4) ≠ z4) := hid (of_decide_eq_false H5.out)
            have hmn : ∀ w : World, (binOp .eql 70 (.map m) (.map none)).run Tryz.prog w = .ok (.bool m.isNone) w := fun w => run_eql_map_nil_sl w 70 _ _ m Tryz.underlying70
            cases m with
            | none =>
              have hmm := @run_makeMap Tryz.prog
              have HT6 := hid (HT5.out.alloc (.map #[] 0))
              have hc6 := HT6.out.cell
              have hfr6 := HT6.out.fr
              go_wp2_with fail
              obtain ⟨W8, hW8⟩ : ∃ W8, (W5.alloc (.map #[] 0)).setCell ⟨tb, 0, none⟩ (.map (some W5.heap.size)) = W8 := ⟨_, rfl⟩
              have HNM := HT5.out.new_map
              rw [hW8] at HNM ⊢
              have HT8 := hid HNM.1
              have HG8 := hid HNM.2
              have HX8 := hid (HX5.out.grown HG8.out (by have := HG.out.1; omega))
              have HP8 := hid (HP5.out.grown HG8.out (by have := HG.out.1; have := HG.out.2.1; omega))
              have ⟨_, q0, q1, q2, q3, _⟩ := HX8.out
              have ⟨_, p0, p1, _⟩ := HP8.out
              have hc8 := HT8.out.cell
              obtain ⟨b, hb⟩ : ∃ b, W5.heap.size = b := ⟨_, rfl⟩
              have HBN : Hid (w.heap.size ≤ b ∧ b ≠ tb) := hid ⟨by rw [← hb]; exact HBB.out.size, by have := HG.out.1; have := HBB.out.size; have := HGG.out; omega⟩
              rw [hb] at HT8 hc8
              have HR8 := hid (turned_trans (turned_below HBB.out (some tb)) HG8.out)
              clear hc hfr hc6 hfr6 hW8 HNM hmm hmn hq hb HG8
              go_still_tail 6, (by kernel_rfl)
              change wpList _ _ _ _ _ W8.drew
              have HT9 := hid HT8.out.drew
              have HR9 := hid (turned_drew HR8.out)
              clear hc8 q0 q1 q2 q3 p0 p1
              generalize W8.drew = W9 at HT9 HR9 ⊢
              refine wpList_tput rfl (.tmp 57) (.tmp 58) (.tmp 59) rfl rfl (HT9.out.some_ b rfl).2 (n, k) ((x, y), (z, u)) rfl rfl HS.out HZ.out ?_
              intro w7 hm7 hg7
              have HM7 := hid (HT9.out.of_map hg7 hm7)
              have HG7 := hid (HR9.out.andThen hg7 (fun j hj => by injection hj with hj; subst hj; exact .inl HBN.out.1))
              clear hm7 hg7
              go_wp2_with fail
              go_ret
              exact .inr ⟨HS.out, rfl, some b, HM7.out, HG7.out, .inr ⟨rfl, b, rfl, HBN.out.1⟩⟩
            | some b =>
              go_wp2_with fail
              clear hmn hq
              go_still_tail 6, (by kernel_rfl)
              change wpList _ _ _ _ _ W5.drew
              have HT6 := hid HT5.out.drew
              have HB6 := hid HBB.out.drew
              clear hc hfr q0 q1 q2 q3 p0 p1
              generalize W5.drew = W6 at HT6 HB6 ⊢
              refine wpList_tput rfl (.tmp 57) (.tmp 58) (.tmp 59) rfl rfl (HT6.out.some_ b rfl).2 (n, k) ((x, y), (z, u)) rfl rfl HS.out HZ.out ?_
              intro w7 hm7 hg7
              have HM7 := hid (HT6.out.of_map hg7 hm7)
              have HG7 := hid (turned_trans (turned_below HB6.out (some b)) hg7)
              clear hm7 hg7
              go_wp2_with fail
              go_ret
              exact .inr ⟨HS.out, rfl, some b, HM7.out, HG7.out, .inl rfl⟩

end Go.Proofs.YtfhlpbjdcdagjaaGreatDoor

namespace Go.Proofs.YtfhlpbjdcdagjaaGreatDoor
open Go.RowKit Go.Lib Go.MapKept
set_option linter.unusedVariables false
set_option maxRecDepth 100000

def e0 : Ent := ((0, 0), z4)

/-- An entry's six cells, from o on. -/
structure EntC (w : World) (b o : Nat) (x : Ent) : Prop where
  c0 : w.cell? ⟨b, o, none⟩ = some (.int .i64 x.1.1)
  c1 : w.cell? ⟨b, o + 1, none⟩ = some (.int .i64 x.1.2)
  c2 : w.cell? ⟨b, o + 2, none⟩ = some (.int .i64 x.2.1.1)
  c3 : w.cell? ⟨b, o + 3, none⟩ = some (.int .i64 x.2.1.2)
  c4 : w.cell? ⟨b, o + 4, none⟩ = some (.int .i64 x.2.2.1)
  c5 : w.cell? ⟨b, o + 5, none⟩ = some (.int .i64 x.2.2.2)

theorem EntC.keep {w w' : World} {b o : Nat} {x : Ent} (h : EntC w b o x) (hk : ∀ o, w'.cell? ⟨b, o, none⟩ = w.cell? ⟨b, o, none⟩) : EntC w' b o x :=
  ⟨(hk _).trans h.c0, (hk _).trans h.c1, (hk _).trans h.c2, (hk _).trans h.c3, (hk _).trans h.c4, (hk _).trans h.c5⟩

/-- A list of entries. -/
def SlE (w : World) (B : Nat) (v : Value) (l : List Ent) : Prop :=
  ∃ A c, v = .slice A l.length c ∧ l.length ≤ c ∧ (0 < l.length → ∃ b o, A = some ⟨b, o, none⟩ ∧ b < B ∧ ∀ j, j < l.length → EntC w b (o + j * 6) (l.getD j e0))

theorem SlE.keep {w w' : World} {B : Nat} {v : Value} {l : List Ent} (h : SlE w B v l) (hk : ∀ b o, b < B → w'.cell? ⟨b, o, none⟩ = w.cell? ⟨b, o, none⟩) : SlE w' B v l := by
  obtain ⟨A, c, hv, hc, h⟩ := h
  refine ⟨A, c, hv, hc, fun hp => ?_⟩
  obtain ⟨b, o, hA, hb, hx⟩ := h hp
  exact ⟨b, o, hA, hb, fun j hj => (hx j hj).keep fun o => hk b o hb⟩

theorem SlE.below {w w' : World} {B : Nat} {v : Value} {l : List Ent} (h : SlE w B v l) (hb : Below B w w') : SlE w' B v l := h.keep fun b o h => hb.cell (p := ⟨b, o, none⟩) h

theorem SlE.mono {w : World} {B B' : Nat} {v : Value} {l : List Ent} (h : SlE w B v l) (hB : B ≤ B') : SlE w B' v l := by
  obtain ⟨A, c, hv, hc, h⟩ := h
  refine ⟨A, c, hv, hc, fun hp => ?_⟩
  obtain ⟨b, o, hA, hb, hx⟩ := h hp
  exact ⟨b, o, hA, by omega, hx⟩

theorem SlE.up {w w' : World} {v : Value} {l : List Ent} (h : SlE w w.heap.size v l) (hb : Below w.heap.size w w') : SlE w' w'.heap.size v l := (h.below hb).mono hb.size

def entI (x : Ent) : Prop := (I64 x.1.1 ∧ I64 x.1.2) ∧ WfC x.2

theorem ent_of {x : Ent} : ∃ n k a b c d, x = ((n, k), ((a, b), (c, d))) := ⟨_, _, _, _, _, _, rfl⟩

theorem allE_snoc {l : List Ent} {k : Nat} (hlt : k < l.length) (h : (l.take k).all entB = true) (h2 : entB (l.getD k e0) = true) : (l.take (k + 1)).all entB = true := by
  rw [List.take_succ_eq_append_getElem hlt, List.all_append, h, List.all_cons, List.all_nil]
  rw [List.getD_eq_getElem?_getD, List.getElem?_eq_getElem hlt] at h2
  simpa using h2

theorem allE_not {l : List Ent} {k : Nat} (hlt : k < l.length) (h2 : entB (l.getD k e0) = false) : l.all entB = false := by
  rw [List.getD_eq_getElem?_getD, List.getElem?_eq_getElem hlt] at h2
  cases h : l.all entB with
  | false => rfl
  | true => rw [List.all_eq_true] at h; have := h _ (List.getElem_mem hlt); simp at h2; rw [h2] at this; cases this

theorem sets_take {l : List Ent} {k : Nat} (hlt : k < l.length) {n key : Int} {c : C4} (hx : l.getD k e0 = ((n, key), c)) : setsT noTab (l.take (k + 1)) = setT (setsT noTab (l.take k)) n key c := by
  rw [List.take_succ_eq_append_getElem hlt, setsT_snoc]
  rw [List.getD_eq_getElem?_getD, List.getElem?_eq_getElem hlt] at hx
  simp only [Option.getD_some] at hx
  rw [hx]

/-- A table that lies behind B. -/
structure TabN (B : Nat) (w : World) (tb : Nat) (m : Option Nat) (D : CTab) : Prop where
  at_ : TabAt w tb m D
  le : B ≤ tb
  mle : ∀ b, m = some b → B ≤ b

theorem TabN.foot_le {B : Nat} {w : World} {tb : Nat} {m : Option Nat} {D : CTab} (h : TabN B w tb m D) : B ≤ foot tb m := by
  cases m with
  | none => exact h.le
  | some b => exact h.mle b rfl

theorem TabN.below {B : Nat} {w w' : World} {tb : Nat} {m : Option Nat} {D : CTab} (h : TabN B w tb m D) (hb : Below w.heap.size w w') : TabN B w' tb m D := ⟨h.at_.below hb, h.le, h.mle⟩

theorem TabN.mono {B B' : Nat} {w : World} {tb : Nat} {m : Option Nat} {D : CTab} (h : TabN B w tb m D) (hB : B' ≤ B) : TabN B' w tb m D := ⟨h.at_, Nat.le_trans hB h.le, fun b e => Nat.le_trans hB (h.mle b e)⟩

theorem TabN.of_set {B : Nat} {w w' : World} {tb : Nat} {m m' : Option Nat} {D D' : CTab} (h : TabN B w tb m D) (ht : TabAt w' tb m' D') (hg : w.grownBy w' (some (foot tb m))) (hm : m' = m ∨ (m = none ∧ ∃ b, m' = some b ∧ w.heap.size ≤ b)) : TabN B w' tb m' D' ∧ Below B w w' := by
  have hB : B ≤ w.heap.size := Nat.le_trans h.le (Nat.le_of_lt h.at_.lt)
  refine ⟨⟨ht, h.le, fun b e => ?_⟩, turned_below_of hg hB h.foot_le⟩
  rcases hm with rfl | ⟨_, b', e', hb⟩
  · exact h.mle b e
  · rw [e'] at e
    injection e with e
    omega

/-- A new one. -/
theorem tab_new (w : World) (t : TypeId) : TabN w.heap.size (w.alloc (.cells #[.map none] t)) w.heap.size none noTab :=
  ⟨⟨by simp, ⟨t, heap_alloc_new w _⟩, OkT.none, fun _ => rfl, fun b e => by cases e⟩, Nat.le_refl _, fun b e => by cases e⟩

/-- What holds integers is no part of a table. -/
theorem TabAt.no_int {w : World} {tb b o : Nat} {m : Option Nat} {D : CTab} {k : IntKind} {n : Int} (h : TabAt w tb m D) (hc : w.cell? ⟨b, o, none⟩ = some (.int k n)) : b ≠ foot tb m := by
  rintro rfl
  cases m with
  | none =>
    obtain ⟨t, hb⟩ := h.blk
    unfold foot World.cell? at hc
    rw [Option.getD_none, hb] at hc
    cases o with
    | zero => simp at hc
    | succ o => simp at hc
  | some mb =>
    obtain ⟨es, clk, L, hM⟩ := (h.some_ mb rfl).2
    unfold foot World.cell? at hc
    rw [Option.getD_some, hM.blk] at hc
    simp at hc

theorem SlV.turned {w w' : World} {B tb : Nat} {m : Option Nat} {D : CTab} {v : Value} {l : List (Int × Int)} (h : SlV w B v l) (ht : TabAt w tb m D) (hg : w.grownBy w' (some (foot tb m))) : SlV w' B v l := by
  obtain ⟨A, c, hv, hc, h⟩ := h
  refine ⟨A, c, hv, hc, fun hp => ?_⟩
  obtain ⟨b, o, hA, hb, hx⟩ := h hp
  have hne := ht.no_int (hx 0 hp).1
  have hbl := World.block_lt_of_cell? w _ (hx 0 hp).1
  have hk := hg.block b hbl (fun e => hne (by injection e))
  exact ⟨b, o, hA, hb, fun j hj => ⟨(World.cell?_of_block (a := ⟨b, _, none⟩) hk).trans (hx j hj).1, (World.cell?_of_block (a := ⟨b, _, none⟩) hk).trans (hx j hj).2⟩⟩

/-- What New answers. -/
def NewPost (w : World) (l : List Ent) (e : Ending) (w' : World) : Prop :=
  ((l.all entB = false ∧ e = .returned (.tuple #[.pointer none, .int .i64 1])) ∨
   (l.all entB = true ∧ ∃ tb m, e = .returned (.tuple #[tabV tb, .int .i64 0]) ∧ TabN w.heap.size w' tb m (setsT noTab l))) ∧ Below w.heap.size w w'

set_option maxHeartbeats 2000000 in
theorem cnew_any (v : Value) (l : List Ent) (hl : l.length ≤ 1000000000000) (hi : ∀ j, j < l.length → entI (l.getD j e0)) (w : World) (hv : SlE w w.heap.size v l) :
    Calls Tryz.prog 7 #[v] w (NewPost w l) := by
  have HI := hid hi; clear hi
  obtain ⟨A, c, rfl, hc, hA⟩ := hv
  have HA := hid hA; clear hA
  obtain ⟨W, hW⟩ : ∃ W, w.alloc (.cells #[.map none] 72) = W := ⟨_, rfl⟩
  have HT0 : Hid (TabN w.heap.size W w.heap.size none noTab) := hid (by rw [← hW]; exact tab_new w _)
  have HB0 : Hid (Below w.heap.size w W) := hid (by rw [← hW]; exact (Below.refl _ w).alloc (Nat.le_refl _) _)
  obtain ⟨tb, htb⟩ : ∃ tb, w.heap.size = tb := ⟨_, rfl⟩
  go_enter Tryz.func7, Tryz.ntmps7
  go_wp2_with fail
  rw [htb] at HT0 HB0 HA
  have HTB := hid htb
  clear hW htb
  go_loopw [12] (fun i wr => ∃ (k : Nat) (m : Option Nat), k ≤ l.length ∧ i = .int .i64 k ∧ Hid ((l.take k).all entB = true) ∧ Hid (TabN tb wr tb m (setsT noTab (l.take k))) ∧ Hid (Below tb w wr)) (fun i _ => l.length - (RowKit.intOf i).toNat)
  case atStart => exact ⟨0, none, Nat.zero_le _, rfl, hid (by simp), hid (by simpa [setsT] using HT0.out), HB0⟩
  case round =>
    obtain ⟨k, m, hk, rfl, HAL, HT, HB⟩ := hrel
    by_cases hlt : k < l.length
    · obtain ⟨b, o, rfl, hbB, hcell⟩ := HA.out (by omega)
      have hx := hcell k hlt
      have hix := HI.out k hlt
      obtain ⟨n, key, x, y, z, u, hxe⟩ := ent_of (x := l.getD k e0)
      rw [hxe] at hx hix
      obtain ⟨c0, c1, c2, c3, c4, c5⟩ := hx.keep (w' := wr) fun o => HB.out.cell (p := ⟨b, o, none⟩) hbB
      simp only at c0 c1 c2 c3 c4 c5
      have HIX := hid hix; have HXE := hid hxe
      clear hx hix hcell hxe
      have HT1 := hid (HT.out.below ((Below.refl _ wr).alloc (Nat.le_refl _) (.cells #[.int .i64 n, .int .i64 key, .int .i64 x, .int .i64 y, .int .i64 z, .int .i64 u] 37)))
      have HB1 := hid (HB.out.alloc (Nat.le_trans HT.out.le (Nat.le_of_lt HT.out.at_.lt)) (.cells #[.int .i64 n, .int .i64 key, .int .i64 x, .int .i64 y, .int .i64 z, .int .i64 u] 37))
      go_wp2_with fail
      refine (set_any tb m _ n key x y z u HIX.out.1.1 HIX.out.1.2 HIX.out.2.1 HIX.out.2.2 _ HT1.out.at_).mono ?_
      rintro e w2 hp
      clear c0 c1 c2 c3 c4 c5
      rcases hp with ⟨hs, rfl, hb⟩ | ⟨hs, rfl, m', ht, hg, hm⟩
      · have HNO : Hid (l.all entB = false) := hid (allE_not hlt (by rw [HXE.out]; exact hs))
        have HB2 := hid (HB1.out.trans (hb.mono (Nat.le_trans HT1.out.le (Nat.le_of_lt HT1.out.at_.lt))))
        clear hs hb
        go_wp2_with fail
        go_ret2
        exact ⟨.inl ⟨HNO.out, rfl⟩, HB2.out.mono (Nat.le_of_eq HTB.out)⟩
      · obtain ⟨ht2, hb2⟩ := HT1.out.of_set ht hg hm
        have HB2 := hid (HB1.out.trans hb2)
        have HT2 : Hid (TabN tb w2 tb m' (setsT noTab (l.take (k + 1)))) := hid (by rw [sets_take hlt HXE.out]; exact ht2)
        have HAL2 : Hid ((l.take (k + 1)).all entB = true) := hid (allE_snoc hlt HAL.out (by rw [HXE.out]; exact hs))
        clear hs ht hg hm ht2 hb2
        go_wp2_with fail
        go_roundw
        case rel => exact ⟨k + 1, m', by omega, by go_num, HAL2, HT2, HB2⟩
        case measure => simp [RowKit.intOf]; omega
    · have hke : l.take k = l := List.take_of_length_le (by omega)
      rw [hke] at HAL HT
      go_wp2_with fail
      go_ret2
      exact ⟨.inr ⟨HAL.out, tb, m, rfl, HT.out.mono (Nat.le_of_eq HTB.out)⟩, HB.out.mono (Nat.le_of_eq HTB.out)⟩

end Go.Proofs.YtfhlpbjdcdagjaaGreatDoor

namespace Go.Proofs.YtfhlpbjdcdagjaaGreatDoor
open Go.RowKit Go.Lib Go.MapKept
set_option linter.unusedVariables false
set_option maxRecDepth 100000

theorem group_bits : ∀ k : Fin 64, bits .and .i64 ((k.val : Nat) : Int) 7 = ((k.val % 8 : Nat) : Int) := by decide +kernel

theorem group_of {k : Int} (h : keyB k = true) : bits .and .i64 k 7 = k % 8 := by
  unfold keyB at h
  simp only [Bool.and_eq_true, decide_eq_true_eq] at h
  have := group_bits ⟨k.toNat, by omega⟩
  simp only at this
  rw [show ((k.toNat : Nat) : Int) = k by omega] at this
  rw [this]
  omega

theorem group_any (k : Int) (h : keyB k = true) (w : World) : Calls Tryz.prog 53 #[.int .i64 k] w fun e w' => e = .returned (.int .i64 (k % 8)) ∧ w' = w := by
  have hg := group_of h
  go_enter Tryz.func53, Tryz.ntmps53
  go_wp2_with fail
  go_ret
  exact ⟨rfl, rfl⟩

/-- What 'among' hands out, in memory: the node's box, the groups'. -/
structure AmongAt (w : World) (nb hb : Nat) (node : Int) (gs : List Int) : Prop where
  l1 : nb < w.heap.size
  l2 : hb < w.heap.size
  n : w.cell? ⟨nb, 0, none⟩ = some (.int .i64 node)
  g : ∀ j : Nat, j < 8 → w.cell? ⟨hb, j, none⟩ = some (.bool (gs.contains (j : Int)))

theorem AmongAt.below {w w' : World} {nb hb : Nat} {node : Int} {gs : List Int} (h : AmongAt w nb hb node gs) (hb' : Below w.heap.size w w') : AmongAt w' nb hb node gs :=
  ⟨Nat.lt_of_lt_of_le h.l1 hb'.size, Nat.lt_of_lt_of_le h.l2 hb'.size, (hb'.cell (p := ⟨nb, 0, none⟩) h.l1).trans h.n, fun j hj => (hb'.cell (p := ⟨hb, j, none⟩) h.l2).trans (h.g j hj)⟩

set_option maxHeartbeats 1000000 in
/-- The closure. -/
theorem amongc_any (n k node : Int) (gs : List Int) (hk : keyB k = true) (nb hb : Nat) (w : World) (h : AmongAt w nb hb node gs) :
    Calls Tryz.prog 52 #[plcV (n, k), .pointer (some ⟨nb, 0, none⟩), .pointer (some ⟨hb, 0, none⟩)] w fun e w' => e = .returned (.bool (amongB node gs (n, k))) ∧ Below w.heap.size w w' := by
  obtain ⟨W, hW, HB, HX⟩ := box2 w n k 76
  have HA := hid (h.below HB.out)
  have hn := HA.out.n
  have hj : ∃ j : Nat, j < 8 ∧ k % 8 = j := ⟨(k % 8).toNat, by omega, by omega⟩
  obtain ⟨j, hj8, hkj⟩ := hj
  have hg := HA.out.g j hj8
  have ⟨_, q0, q1, _⟩ := HX.out
  have hk8 : (k % 8).toNat = j := by omega
  have hkj0 : 0 ≤ k % 8 := by omega
  have hkj8 : k % 8 < 8 := by omega
  have HK := hid hk
  by_cases e : n = node
  · have hr : Hid (amongB node gs (n, k) = gs.contains (j : Int)) := hid (by unfold amongB; simp [e, hkj])
    rw [hr.out]
    subst e
    obtain ⟨β, hβ⟩ : ∃ β, gs.contains (j : Int) = β := ⟨_, rfl⟩
    rw [hβ] at hg ⊢
    clear hk h hβ
    go_enter Tryz.func52, Tryz.ntmps52
    go_wp2_with fail
    refine (group_any k HK.out W).mono ?_
    rintro e w1 ⟨rfl, rfl⟩
    rw [hkj]
    go_wp2_with fail
    go_ret
    exact ⟨rfl, HB.out⟩
  · have hr : Hid (amongB node gs (n, k) = false) := hid (by unfold amongB; simp [e])
    rw [hr.out]
    clear hk h
    go_enter Tryz.func52, Tryz.ntmps52
    go_wp2_with fail
    go_ret
    exact ⟨rfl, HB.out⟩

end Go.Proofs.YtfhlpbjdcdagjaaGreatDoor
