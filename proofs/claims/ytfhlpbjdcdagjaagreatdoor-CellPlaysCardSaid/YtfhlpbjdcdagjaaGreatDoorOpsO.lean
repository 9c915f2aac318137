/- Layer 7, cell: operations among the arguments: opened. -/
import Derived.Test.YtfhlpbjdcdagjaaGreatDoorHbd
import Derived.Test.YtfhlpbjdcdagjaaGreatDoorHau
import Derived.Deep.Slices
namespace Go.Proofs.YtfhlpbjdcdagjaaGreatDoor
open Go.RowKit Go.Joins Go.ChangeShapes Go.WideShapes
set_option linter.unusedVariables false
set_option maxRecDepth 100000

theorem cells_op : Tryz.prog.cellsOf 44 = 12 := by kernel_rfl

section
variable {H : Type} {enc : TypeId × Value → H} {w : World} {base : Nat} {held : Bool}

theorem ins_trod {n : Nat} {u : Value} {y : DataW H × List MemPlace} (h : DataW.trod enc Tryz.prog w base (fun _ => true) held n 39 [u] = some y) : ∃ l, SlV w w.heap.size u l := by
  have h' := h
  rcases Go.Deep.open_slice Tryz.underlying39 h with ⟨hcs, _⟩ | ⟨p, len', cap', m, n, D, Pl, hcs, _⟩
  · obtain rfl : u = _ := by simpa using hcs
    obtain ⟨l, hl⟩ := open_ins h'
    exact ⟨l, hl.row⟩
  · obtain rfl : u = _ := by simpa using hcs
    obtain ⟨l, hl⟩ := open_ins h'
    exact ⟨l, hl.row⟩

theorem ints_trod {n : Nat} {u : Value} {y : DataW H × List MemPlace} (h : DataW.trod enc Tryz.prog w base (fun _ => true) held n 42 [u] = some y) : ∃ l, SlI w w.heap.size .i64 u l := by
  have h' := h
  rcases Go.Deep.open_slice Tryz.underlying42 h with ⟨hcs, _⟩ | ⟨p, len', cap', m, n, D, Pl, hcs, _⟩
  · obtain rfl : u = _ := by simpa using hcs
    obtain ⟨l, hl⟩ := open_islice h'
    exact ⟨l, hl.row⟩
  · obtain rfl : u = _ := by simpa using hcs
    obtain ⟨l, hl⟩ := open_islice h'
    exact ⟨l, hl.row⟩

theorem op_trod {n : Nat} {cs : List Value} {y : DataW H × List MemPlace} (h : DataW.trod enc Tryz.prog w base (fun _ => true) held n 44 cs = some y) :
    ∃ (k : Int) (x : Ent) (u v : Value) (p : List (Int × Int)) (r : Rec3) (l : List Int), cs = .int .i64 k :: (encE x ++ u :: (encR r ++ [v])) ∧ OpI ⟨k, x, p, r, l⟩ ∧ SlV w w.heap.size u p ∧ SlI w w.heap.size .i64 v l := by
  obtain ⟨xs, m, _, _, hl, hxl, hf⟩ := DataW.trod_struct Tryz.underlying44 h
  rw [cells_op] at hl
  match cs, hl, xs, hxl with
  | [v0, v1, v2, v3, v4, v5, v6, v7, v8, v9, v10, v11], _, [y0, y1, y2, y3, y4], _ =>
    have g0 := hf 0 _ rfl
    have g1 := hf 1 _ rfl
    have g2 := hf 2 _ rfl
    have g3 := hf 3 _ rfl
    have g4 := hf 4 _ rfl
    have ci : Tryz.prog.cellsOf 39 = 1 := by kernel_rfl
    have cl : Tryz.prog.cellsOf 42 = 1 := by kernel_rfl
    obtain ⟨a, e0, i0⟩ := int_trod (u := v0) (y := y0) (by simpa [cells_int] using g0)
    obtain ⟨x, e1, i1⟩ := ent_trod (cs := [v1, v2, v3, v4, v5, v6]) (y := y1) (by simpa [cells_ent] using g1)
    obtain ⟨p, i2⟩ := ins_trod (u := v7) (y := y2) (by simpa [ci] using g2)
    obtain ⟨r, e3, i3⟩ := rec_trod (cs := [v8, v9, v10]) (y := y3) (by simpa [cells_rec] using g3)
    obtain ⟨l, i4⟩ := ints_trod (u := v11) (y := y4) (by simpa [cl] using g4)
    refine ⟨a, x, v7, v11, p, r, l, ?_, ⟨i0, i1, i3⟩, i2, i4⟩
    rw [e0, ← e1, ← e3]
    rfl

theorem open_ops {fuel : Nat} {a : Option Addr} {len cap : Nat} {x : DataW H × List MemPlace} (h : DataW.trod enc Tryz.prog w base (fun _ => true) held fuel 23 [.slice a len cap] = some x) :
    ∃ l : List OpT, SoIn w (.slice a len cap) l := by
  rcases Go.Deep.open_slice Tryz.underlying23 h with ⟨hcs, _⟩ | ⟨p, len', cap', m, n, D, Pl, hcs, _, hl, hm, hmm, _, hx⟩
  · simp at hcs
    obtain ⟨rfl, rfl, rfl⟩ := hcs
    exact ⟨[], ⟨_, _, rfl, Nat.le_refl _, fun h => absurd h (by simp)⟩, fun j hj => absurd hj (by simp)⟩
  · simp at hcs
    obtain ⟨rfl, rfl, rfl⟩ := hcs
    have hlm : len ≤ m := by rw [hmm]; split <;> omega
    by_cases h0 : len = 0
    · subst h0
      exact ⟨[], ⟨_, _, rfl, Nat.zero_le _, fun h => absurd h (by simp)⟩, fun j hj => absurd hj (by simp)⟩
    · have hs : p.spot = none := by
        obtain ⟨cs', h1, h2⟩ := hx 0 (by omega)
        rw [cells_op] at h1
        obtain ⟨_, hlen, hcell⟩ := World.cells?_some h1
        obtain ⟨k, x, u, v, pp, r, l, rfl, _⟩ := op_trod h2
        exact spot_none (hcell 0 (by omega))
      obtain ⟨b, off, spot⟩ := p
      simp only at hs
      subst hs
      have each : ∀ i, i < len → ∃ y : OpT, OpC w w.heap.size b (off + i * 12) y ∧ OpI y := by
        intro i hi
        obtain ⟨cs', h1, h2⟩ := hx i (by omega)
        have c := elem_cells cells_op h1
        obtain ⟨k, x, u, v, pp, r, l, rfl, hy, hu, hv⟩ := op_trod h2
        exact ⟨⟨k, x, pp, r, l⟩, ⟨c 0 (by omega), c 1 (by omega), c 2 (by omega), c 3 (by omega), c 4 (by omega), c 5 (by omega), c 6 (by omega), ⟨u, c 7 (by omega), hu⟩, c 8 (by omega), c 9 (by omega), c 10 (by omega), ⟨v, c 11 (by omega), hv⟩⟩, hy⟩
      obtain ⟨f, hf⟩ := Go.Deep.choose_lt each
      have hget : ∀ j, j < len → ((List.range len).map f).getD j op0 = f j := by
        intro j hj
        rw [List.getD_eq_getElem?_getD, List.getElem?_map, List.getElem?_range hj]
        rfl
      refine ⟨(List.range len).map f, ⟨some ⟨b, off, none⟩, cap, by simp, by simpa using hl, fun hp => ?_⟩, fun j hj => ?_⟩
      · refine ⟨b, off, rfl, World.block_lt_of_cell? w _ (hf 0 (by omega)).1.k, fun j hj => ?_⟩
        have hj' : j < len := by simpa using hj
        rw [hget j hj']
        exact (hf j hj').1
      · have hj' : j < len := by simpa using hj
        rw [hget j hj']
        exact (hf j hj').2

end

end Go.Proofs.YtfhlpbjdcdagjaaGreatDoor
