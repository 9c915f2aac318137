/- Programs in memory: their cells. -/
import Derived.Test.YtfohdoahddommaaDoorCodM
import Derived.Laws.OwnMore
namespace Go.Proofs.YtfohdoahddommaaDoor
open Go.RowKit Go.Lib
set_option linter.unusedVariables false
set_option maxRecDepth 100000

/-- A program's cells. -/
def insCells (q : List (Int × Int)) : List Value := q.flatMap fun x => [.int .i64 x.1, .int .i64 x.2]

theorem insCells_len (q : List (Int × Int)) : (insCells q).length = q.length * 2 := by
  induction q with
  | nil => rfl
  | cons x q ih => simp only [insCells, List.flatMap_cons, List.length_append, List.length_cons, List.length_nil] at ih ⊢; omega

theorem insCells_snoc (q : List (Int × Int)) (o a : Int) : insCells (q ++ [(o, a)]) = insCells q ++ [.int .i64 o, .int .i64 a] := by simp [insCells]

theorem insCells_at : ∀ (q : List (Int × Int)) (j : Nat), j < q.length → (insCells q)[j * 2]? = some (.int .i64 (q.getD j (0, 0)).1) ∧ (insCells q)[j * 2 + 1]? = some (.int .i64 (q.getD j (0, 0)).2)
  | [], _, h => absurd h (by simp)
  | x :: q, 0, _ => ⟨rfl, rfl⟩
  | x :: q, j + 1, h => by
    have ih := insCells_at q j (by simpa using h)
    have e : insCells (x :: q) = .int .i64 x.1 :: .int .i64 x.2 :: insCells q := rfl
    rw [e, show (j + 1) * 2 = j * 2 + 1 + 1 by omega]
    exact ih

theorem insCells_one (q : List (Int × Int)) : ∀ u ∈ insCells q, u.oneCell' = true := by
  intro u hu
  simp only [insCells, List.mem_flatMap] at hu
  obtain ⟨x, _, hx⟩ := hu
  simp at hx
  rcases hx with rfl | rfl <;> rfl

theorem SlV.of_own {w : World} {B : Nat} {t : TypeId} {v : Value} {q : List (Int × Int)} (h : w.ownsRow B t 2 v q.length (insCells q)) : SlV w w.heap.size v q := by
  rcases h.2 with ⟨rfl, hn⟩ | ⟨g, cap, cur, rfl, hb, hg, hc, hm, hs, hx⟩
  · have : q = [] := List.eq_nil_of_length_eq_zero hn
    subst this
    exact ⟨none, 0, rfl, Nat.le_refl _, fun h => absurd h (by simp)⟩
  · refine ⟨_, cap, rfl, hc, fun _ => ⟨g, 0, rfl, (Array.getElem?_eq_some_iff.1 hg).1, fun j hj => ?_⟩⟩
    obtain ⟨h0, h1⟩ := insCells_at q j hj
    rw [Nat.zero_add, h.cellAt _ (by omega), h.cellAt _ (by omega)]
    exact ⟨h0, h1⟩

theorem insInfo : (Tryd.prog.info? 37).map (fun i => (i.zero, i.size, i.bytes)) = some (some (.agg #[.int .i64 0, .int .i64 0]), 2, 16) := by kernel_rfl

theorem SlV.here {w w' : World} {v : Value} {l : List (Int × Int)} (h : SlV w w.heap.size v l) (hb : Hid (Below w.heap.size w w')) : SlV w' w'.heap.size v l := (h.below hb.out).mono hb.out.size

theorem insCells_append (p q : List (Int × Int)) : insCells (p ++ q) = insCells p ++ insCells q := by simp [insCells]

/-- A slice's cells, where it lies. -/
theorem SlV.cells {w : World} {B : Nat} {A : Option Addr} {n c : Nat} {l : List (Int × Int)} (h : SlV w B (.slice A n c) l) : ∀ ad, A = some ad → ∀ j u, (insCells l)[j]? = some u → w.cell? (ad.add j) = some u := by
  intro ad hA j u hu
  obtain ⟨A', c', hv, hc, hz⟩ := h
  injection hv with h1 h2 h3
  subst h1
  have hj : j < (insCells l).length := by
    rcases Nat.lt_or_ge j (insCells l).length with h | h
    · exact h
    · rw [List.getElem?_eq_none h] at hu; cases hu
  rw [insCells_len] at hj
  obtain ⟨b, o, hA2, hb, hcell⟩ := hz (by omega)
  rw [hA] at hA2
  injection hA2 with hA2
  subst hA2
  obtain ⟨k, hk⟩ : ∃ k, j = k * 2 ∨ j = k * 2 + 1 := ⟨j / 2, by omega⟩
  obtain ⟨i0, i1⟩ := insCells_at l k (by omega)
  obtain ⟨c0, c1⟩ := hcell k (by omega)
  rw [addr_add]
  rcases hk with rfl | rfl
  · rw [i0] at hu; rw [c0]; exact hu
  · rw [i1] at hu; rw [← Nat.add_assoc, c1]; exact hu

theorem SlV.take {w : World} {B : Nat} {A : Option Addr} {n c : Nat} {l : List (Int × Int)} (h : SlV w B (.slice A n c) l) (k : Nat) (hk : k ≤ l.length) : SlV w B (.slice A k c) (l.take k) := by
  obtain ⟨A', c', hv, hc, hz⟩ := h
  injection hv with h1 h2 h3
  subst h1; subst h3
  have hl : (l.take k).length = k := by rw [List.length_take]; omega
  refine ⟨A, c, by rw [hl], by omega, fun hp => ?_⟩
  rw [hl] at hp ⊢
  obtain ⟨b, o, hA2, hb, hcell⟩ := hz (by omega)
  refine ⟨b, o, hA2, hb, fun j hj => ?_⟩
  have := hcell j (by omega)
  rw [show (l.take k).getD j (0, 0) = l.getD j (0, 0) by simp [List.getD_eq_getElem?_getD, hj]]
  exact this

/-- A new slice of one instruction. -/
theorem SlV.lit1 (w : World) (a b : Int) (t : TypeId) :
    SlV (w.alloc (.cells #[.int .i64 a, .int .i64 b] t)) (w.alloc (.cells #[.int .i64 a, .int .i64 b] t)).heap.size (.slice (some ⟨w.heap.size, 0, none⟩) 1 1) [(a, b)] := by
  refine ⟨_, _, rfl, Nat.le_refl _, fun _ => ⟨_, 0, rfl, by simp, fun j hj => ?_⟩⟩
  match j, hj with
  | 0, _ => exact ⟨by simp [World.cell?_alloc_new], by simp [World.cell?_alloc_new]⟩

/-- .. of two. -/
theorem SlV.lit2 (w : World) (a b c d : Int) (t : TypeId) :
    SlV (w.alloc (.cells #[.int .i64 a, .int .i64 b, .int .i64 c, .int .i64 d] t)) (w.alloc (.cells #[.int .i64 a, .int .i64 b, .int .i64 c, .int .i64 d] t)).heap.size (.slice (some ⟨w.heap.size, 0, none⟩) 2 2) [(a, b), (c, d)] := by
  refine ⟨_, _, rfl, Nat.le_refl _, fun _ => ⟨_, 0, rfl, by simp, fun j hj => ?_⟩⟩
  match j, hj with
  | 0, _ => exact ⟨by simp [World.cell?_alloc_new], by simp [World.cell?_alloc_new]⟩
  | 1, _ => exact ⟨by simp [World.cell?_alloc_new], by simp [World.cell?_alloc_new]⟩

end Go.Proofs.YtfohdoahddommaaDoor
