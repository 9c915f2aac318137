/- Layer 3, gauss: the walk of GaussReckons. -/
import Derived.Test.YtgkhmhbmdmjacaaDoorGauI
import Derived.Test.YtgkhmhbmdmjacaaDoorGauRef
namespace Go.Proofs.YtgkhmhbmdmjacaaDoor
open Go.RowKit
set_option linter.unusedVariables false

/-- The slots of GaussReckons's last region. -/
def slotsR (v : Value) (n0 g7 g : Nat) (a1 a2 b1 b2 x y xb s1 s2 p1 p2 d1 d2 c : Int) (rt z lt : Bool) : List Kd :=
  [.any, .any, .is v, .is (.pointer (some ⟨n0, 0, none⟩)), .is (.pointer (some ⟨n0 + 1, 0, none⟩)), .any, .is (.bool true), .is (.pointer (some ⟨g7, 0, none⟩)), .is (.pointer (some ⟨g7 + 1, 0, none⟩)), .any, .any, .is (.pointer (some ⟨g, 0, none⟩)), .any, .any, .any, .any, .any, .any, .any, .any, .any, .any, .any, .any, .any, .any, .any, .any, .any, .any, .any, .any, .any, .any, .any, .any, .any, .is (.pointer (some ⟨n0, 0, none⟩)), .is (.int .i64 a1), .is (.pointer (some ⟨n0, 1, none⟩)), .is (.int .i64 a2), .is (val x y), .is (val x y), .is (.bool true), .is (.bool true), .is (val a1 a2), .is (.bool rt), .is (val x y), .is (val a1 a2), .is (.bool rt), .is (.bool true), .is (.bool true), .is (.bool true), .is v, .is (val s1 s2), .is (val s1 s2), .is (.bool true), .is (.bool true), .is (.bool true), .is v, .is (val p1 p2), .is (val p1 p2), .is (.bool true), .is (.bool true), .is (.bool true), .is (val a1 a2), .is (val b1 b2), .is (val d1 d2), .is (val a1 a2), .is (val b1 b2), .is (val d1 d2), .is (.bool true), .is (.bool true), .is (.bool true), .is (val a1 a2), .is (val x c), .is (.pointer (some ⟨g, 0, none⟩)), .is (.int .i64 x), .is (.pointer (some ⟨g, 1, none⟩)), .is (.int .i64 y), .is (.int .i64 (-y)), .is (val x c), .is (.bool true), .is (.bool true), .is (.bool true), .is (val a1 a2), .is (val c x), .is (.pointer (some ⟨g, 1, none⟩)), .is (.int .i64 y), .is (.int .i64 (-y)), .is (.pointer (some ⟨g, 0, none⟩)), .is (.int .i64 x), .is (val c x), .is (.bool true), .is (.bool true), .is (.bool true), .is (val a1 a2), .is (.bool z), .is (val x y), .is (val 0 0), .is (.bool z), .is (.bool true), .is (.bool true), .is (.bool true), .is (val a1 a2), .is (val b1 b2), .is (.bool lt), .is (.pointer (some ⟨g, 0, none⟩)), .is (.int .i64 x), .is (.pointer (some ⟨n0 + 1, 0, none⟩)), .is (.int .i64 b1), .is (.int .i64 xb), .is (.bool lt), .is (.bool true), .is (.bool true)]

/-- The world of the loop: the two boxes of what was reckoned so far, behind a base W. -/
structure TwoSt (W : World) (g : Nat) (s1 s2 p1 p2 : Int) (wr : World) : Prop where
  bel : Below W.heap.size W wr
  gt : W.heap.size ≤ g
  sz : g + 1 < wr.heap.size
  c0 : wr.cell? ⟨g, 0, none⟩ = some (.int .i64 s1)
  c1 : wr.cell? ⟨g, 1, none⟩ = some (.int .i64 s2)
  c2 : wr.cell? ⟨g + 1, 0, none⟩ = some (.int .i64 p1)
  c3 : wr.cell? ⟨g + 1, 1, none⟩ = some (.int .i64 p2)
  f0 : wr.frozen? ⟨g, 0, none⟩ = false
  f1 : wr.frozen? ⟨g, 1, none⟩ = false
  f2 : wr.frozen? ⟨g + 1, 0, none⟩ = false
  f3 : wr.frozen? ⟨g + 1, 1, none⟩ = false

theorem TwoSt.new (W : World) (s1 s2 p1 p2 : Int) (t : TypeId) : TwoSt W W.heap.size s1 s2 p1 p2 ((W.alloc (.cells #[.int .i64 s1, .int .i64 s2] t)).alloc (.cells #[.int .i64 p1, .int .i64 p2] t)) := by
  constructor
  all_goals first | exact ((Below.refl _ _).alloc (Nat.le_refl _) _).alloc (by simp) _ | exact Nat.le_refl _ | (go_simp; done) | (simp; done) | (simp; omega)

theorem TwoSt.below {W V w' : World} {g : Nat} {s1 s2 p1 p2 : Int} (h : TwoSt W g s1 s2 p1 p2 V) (hb : Below V.heap.size V w') : TwoSt W g s1 s2 p1 p2 w' := by
  have hz := h.sz
  have hs := hb.size
  obtain ⟨hc, hf⟩ := bcell hb
  refine ⟨h.bel.trans (hb.mono h.bel.size), h.gt, by omega, ?_, ?_, ?_, ?_, ?_, ?_, ?_, ?_⟩
  · rw [hc _ _ (by omega)]; exact h.c0
  · rw [hc _ _ (by omega)]; exact h.c1
  · rw [hc _ _ (by omega)]; exact h.c2
  · rw [hc _ _ (by omega)]; exact h.c3
  · rw [hf _ _ (by omega)]; exact h.f0
  · rw [hf _ _ (by omega)]; exact h.f1
  · rw [hf _ _ (by omega)]; exact h.f2
  · rw [hf _ _ (by omega)]; exact h.f3

theorem TwoSt.put1 {W w' : World} {g : Nat} {s1 s2 p1 p2 : Int} (h : TwoSt W g s1 s2 p1 p2 w') (m n : Int) : TwoSt W g m n p1 p2 ((w'.setCell ⟨g, 0, none⟩ (.int .i64 m)).setCell ⟨g, 1, none⟩ (.int .i64 n)) := by
  obtain ⟨h0, hg, h1, h2, h3, h4, h5, h6, h7, h8, h9⟩ := h
  refine ⟨(h0.setCell (by simp only; omega) _).setCell (by simp only; omega) _, hg, by simpa using h1, ?_, ?_, ?_, ?_, ?_, ?_, ?_, ?_⟩
  all_goals (go_simp; done)

theorem TwoSt.put2 {W w' : World} {g : Nat} {s1 s2 p1 p2 : Int} (h : TwoSt W g s1 s2 p1 p2 w') (m n : Int) : TwoSt W g s1 s2 m n ((w'.setCell ⟨g + 1, 0, none⟩ (.int .i64 m)).setCell ⟨g + 1, 1, none⟩ (.int .i64 n)) := by
  obtain ⟨h0, hg, h1, h2, h3, h4, h5, h6, h7, h8, h9⟩ := h
  refine ⟨(h0.setCell (by simp only; omega) _).setCell (by simp only; omega) _, hg, by simpa using h1, ?_, ?_, ?_, ?_, ?_, ?_, ?_, ?_⟩
  all_goals (go_simp; done)

theorem of_pq (a b p q : Int) (h1 : Hid (I64 a ∧ I64 b)) (hp : Hid (into a = p)) (hq : Hid (into b = q)) (w : World) :
    Calls Tryd.prog 10 #[.int .i64 a, .int .i64 b] w fun e w' => e = .returned (val p q) ∧ Below w.heap.size w w' :=
  (of_any a b h1.out.1 h1.out.2 w).mono fun e w' ⟨he, hb⟩ => ⟨by rw [he, hp.out, hq.out], hb⟩

theorem refof_pq (a b p q : Int) (hp : Hid (into a = p)) (hq : Hid (into b = q)) (w : World) :
    Calls Tryd.prog 6 #[.int .i64 a, .int .i64 b] w fun e w' => e = .returned (val p q) ∧ Below w.heap.size w w' :=
  (refof_val a b w).mono fun e w' ⟨he, hb⟩ => ⟨by rw [he, hp.out, hq.out], hb⟩

theorem refinto_pq (a p : Int) (hp : Hid (into a = p)) (w : World) :
    Calls Tryd.prog 14 #[.int .i64 a] w fun e w' => e = .returned (.int .i64 p) ∧ Below w.heap.size w w' :=
  (refinto_any a w).mono fun e w' ⟨he, hb⟩ => ⟨by rw [he, hp.out], by rw [← hb]; exact Below.refl _ _⟩

theorem less_pq (a b c d : Int) (p : Bool) (h1 : Hid (I64 a ∧ I64 b)) (h2 : Hid (I64 c ∧ I64 d)) (hp : Hid (decide (into a < into c) = p)) (w : World) :
    Calls Tryd.prog 11 #[val a b, val c d] w fun e w' => e = .returned (.bool p) ∧ Below w.heap.size w w' :=
  (less_any a b c d h1.out.1 h1.out.2 h2.out.1 h2.out.2 w).mono fun e w' ⟨he, hb⟩ => ⟨by rw [he, hp.out], hb⟩

/-- A slice of values that came in. -/
structure SvIn (w : World) (v : Value) (l : List (Int × Int)) : Prop where
  row : SlV w w.heap.size v l
  fits : ∀ j, j < l.length → I64 (l.getD j (0, 0)).1 ∧ I64 (l.getD j (0, 0)).2
  most : l.length ≤ maxLen

end Go.Proofs.YtgkhmhbmdmjacaaDoor
