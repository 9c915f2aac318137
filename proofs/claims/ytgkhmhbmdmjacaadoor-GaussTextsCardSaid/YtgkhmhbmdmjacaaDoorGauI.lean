/- Layer 3, gauss: the walk of GaussIs. -/
import Derived.Test.YtgkhmhbmdmjacaaDoorGauV
import Derived.Test.YtgkhmhbmdmjacaaDoorReg
namespace Go.Proofs.YtgkhmhbmdmjacaaDoor
open Go.RowKit
set_option linter.unusedVariables false

/-- What a slot holds: this value; a slice of these values; anything. -/
inductive Kd
  | is (v : Value)
  | sl (l : List (Int × Int))
  | any

def Kd.ok (k : Kd) (u : Value) (w : World) : Prop :=
  match k with
  | .is v => u = v
  | .sl l => SlV w w.heap.size u l
  | .any => True

theorem Kd.stable (k : Kd) (u : Value) (w w' : World) (h : k.ok u w) (hb : Below w.heap.size w w') : k.ok u w' := by
  cases k with
  | is v => exact h
  | sl l => exact (SlV.below h hb).mono hb.size
  | any => trivial

theorem mul_pq (v : Value) (l : List (Int × Int)) (p q : Int) (h : Hid (prodV l = (p, q))) (hi : Hid (∀ j, j < l.length → I64 (l.getD j (0, 0)).1 ∧ I64 (l.getD j (0, 0)).2)) (hl : l.length ≤ 1000000000000) (w : World) (hv : SlV w w.heap.size v l) :
    Calls Tryd.prog 13 #[v] w fun e w' => e = .returned (val p q) ∧ Below w.heap.size w w' :=
  (mul_any v l w hv hl hi.out).mono fun e w' ⟨he, hb⟩ => ⟨by rw [he, h.out], hb⟩

theorem conj_pq (a b p q : Int) (h1 : Hid (I64 a ∧ I64 b)) (hp : Hid (into a = p)) (hq : Hid (into (-into b) = q)) (w : World) :
    Calls Tryd.prog 12 #[val a b] w fun e w' => e = .returned (val p q) ∧ Below w.heap.size w w' :=
  (conj_any a b h1.out.1 h1.out.2 w).mono fun e w' ⟨he, hb⟩ => ⟨by rw [he, hp.out, hq.out], hb⟩

/-- The slots of GaussIs's last region. -/
def slotsI (n0 g7 g8 : Nat) (a1 a2 b1 b2 c1 c2 x y r1 r2 p1 p2 m1 m2 n1 n2 q1 q2 s1 s2 g z1 : Int) : List Kd :=
  [.any, .any, .any, .is (.pointer (some ⟨n0, 0, none⟩)), .is (.pointer (some ⟨n0 + 1, 0, none⟩)), .is (.pointer (some ⟨n0 + 1 + 1, 0, none⟩)), .is (.bool true), .is (.pointer (some ⟨g7, 0, none⟩)), .is (.pointer (some ⟨g8, 0, none⟩)), .any, .any, .any, .any, .any, .any, .any, .any, .any, .any, .any, .any, .is (val a1 a2), .is (val b1 b2), .is (val c1 c2), .sl [(b1, b2), (c1, c2)], .is (val r1 r2), .sl [(a1, a2), (r1, r2)], .is (val p1 p2), .is (val a1 a2), .is (val b1 b2), .sl [(a1, a2), (b1, b2)], .is (val m1 m2), .is (val a1 a2), .is (val c1 c2), .sl [(a1, a2), (c1, c2)], .is (val n1 n2), .sl [(m1, m2), (n1, n2)], .is (val p1 p2), .is (.bool true), .is (.bool true), .is (val a1 a2), .is (val b1 b2), .is (val c1 c2), .sl [(a1, a2), (b1, b2), (c1, c2)], .is (val q1 q2), .is (val c1 c2), .is (val b1 b2), .is (val a1 a2), .sl [(c1, c2), (b1, b2), (a1, a2)], .is (val q1 q2), .is (.bool true), .is (.bool true), .is (.bool true), .is (val a1 a2), .is (val b1 b2), .sl [(a1, a2), (b1, b2)], .is (val m1 m2), .is (val b1 b2), .is (val a1 a2), .sl [(b1, b2), (a1, a2)], .is (val m1 m2), .is (.bool true), .is (.bool true), .is (.bool true), .is (val a1 a2), .is (val b1 b2), .is (val s1 s2), .is (val b1 b2), .sl [(s1, s2), (b1, b2)], .is (val x y), .is (val x y), .is (.bool true), .is (.bool true), .is (.bool true), .is (val x y), .is (val x y), .is (.bool true), .is (.bool true), .is (.bool true), .is (val a1 a2), .is (val a1 a2), .is (val x g), .sl [(a1, a2), (x, g)], .is (val z1 0), .is (.int .i64 0), .is (.bool true), .is (.bool true), .is (.bool true), .is (val a1 a2), .is (val b1 b2), .sl [(a1, a2), (b1, b2)], .is (val m1 m2), .is (.bool true), .is (.bool true)]

theorem pair_of {p : Int × Int} : ∃ x y, p = (x, y) := ⟨p.1, p.2, rfl⟩

/-- A box laid behind what was there: the new base. -/
theorem rebase {W w' : World} (hb : Hid (Below W.heap.size W w')) (x y : Value) (t : TypeId) : ∃ V : World, w'.alloc (.cells #[x, y] t) = V ∧
    (V.cell? ⟨w'.heap.size, 0, none⟩ = some x ∧ V.cell? ⟨w'.heap.size, 1, none⟩ = some y) ∧ Hid (∀ b o, b < W.heap.size → V.cell? ⟨b, o, none⟩ = W.cell? ⟨b, o, none⟩) ∧
    w'.heap.size < V.heap.size ∧ W.heap.size ≤ V.heap.size ∧ Hid (Below W.heap.size W V) ∧ Hid (Below V.heap.size V V) := by
  have h1 := hb.out.alloc hb.out.size (.cells #[x, y] t)
  refine ⟨_, rfl, ⟨?_, ?_⟩, hid (bcell h1).1, by simp, h1.size, hid h1, hid (Below.refl _ _)⟩
  · simp
  · simp

theorem boxes3 (w : World) (a b c d e f : Value) (t : TypeId) : ∃ W : World, ((w.alloc (.cells #[a, b] t)).alloc (.cells #[c, d] t)).alloc (.cells #[e, f] t) = W ∧
    (W.cell? ⟨w.heap.size, 0, none⟩ = some a ∧ W.cell? ⟨w.heap.size, 1, none⟩ = some b ∧ W.cell? ⟨w.heap.size + 1, 0, none⟩ = some c ∧ W.cell? ⟨w.heap.size + 1, 1, none⟩ = some d ∧ W.cell? ⟨w.heap.size + 1 + 1, 0, none⟩ = some e ∧ W.cell? ⟨w.heap.size + 1 + 1, 1, none⟩ = some f) ∧
    (w.heap.size < W.heap.size ∧ w.heap.size + 1 < W.heap.size ∧ w.heap.size + 1 + 1 < W.heap.size) ∧ Hid (Below w.heap.size w W) := by
  obtain ⟨W, h1, h2, _, h3, _, h4⟩ := cells3 w a b c d e f t
  exact ⟨W, h1, h2, h3, h4⟩

end Go.Proofs.YtgkhmhbmdmjacaaDoor
