/- Layer 3, gauss: sums and products in the range: plain facts. -/
import Derived.Test.YtfohdoahddommaaDoorGauA
namespace Go.Proofs.YtfohdoahddommaaDoor
open Go.RowKit
set_option linter.unusedVariables false
set_option maxRecDepth 100000

def cmul (x y : Int × Int) : Int × Int := (x.1 * y.1 - x.2 * y.2, x.1 * y.2 + x.2 * y.1)

def cadd (x y : Int × Int) : Int × Int := (x.1 + y.1, x.2 + y.2)

def csub (x y : Int × Int) : Int × Int := (x.1 - y.1, x.2 - y.2)

def cconj (x : Int × Int) : Int × Int := (x.1, -x.2)

def norm (x : Int × Int) : Int × Int := (into x.1, into x.2)

theorem into_mul_mod (a b : Int) : (into a * into b) % 1048576 = (a * b) % 1048576 := by
  rw [Int.mul_emod, into_mod, into_mod, ← Int.mul_emod]

theorem mul_mod_l (a b : Int) : (into a * b) % 1048576 = (a * b) % 1048576 := by
  rw [Int.mul_emod, into_mod, ← Int.mul_emod]

theorem mul_mod_r (a b : Int) : (a * into b) % 1048576 = (a * b) % 1048576 := by
  rw [Int.mul_emod, into_mod, ← Int.mul_emod]

theorem addV_eq (x y : Int × Int) : addV x y = norm (cadd x y) := by
  have h1 := into_mod x.1; have h2 := into_mod x.2; have h3 := into_mod y.1; have h4 := into_mod y.2
  unfold addV norm cadd
  exact Prod.ext (into_eq (by show (into x.1 + into y.1) % _ = (x.1 + y.1) % _; omega)) (into_eq (by show (into x.2 + into y.2) % _ = (x.2 + y.2) % _; omega))

theorem mulV_eq (x y : Int × Int) : mulV x y = norm (cmul x y) := by
  have h1 := into_mul_mod x.1 y.1; have h2 := into_mul_mod x.2 y.2; have h3 := into_mul_mod x.1 y.2; have h4 := into_mul_mod x.2 y.1
  unfold mulV norm cmul
  exact Prod.ext (into_eq (by show (into x.1 * into y.1 - into x.2 * into y.2) % _ = (x.1 * y.1 - x.2 * y.2) % _; omega)) (into_eq (by show (into x.1 * into y.2 + into x.2 * into y.1) % _ = (x.1 * y.2 + x.2 * y.1) % _; omega))

theorem norm_mul_l (x y : Int × Int) : norm (cmul (norm x) y) = norm (cmul x y) := by
  have h1 := mul_mod_l x.1 y.1; have h2 := mul_mod_l x.2 y.2; have h3 := mul_mod_l x.1 y.2; have h4 := mul_mod_l x.2 y.1
  unfold norm cmul
  exact Prod.ext (into_eq (by show (into x.1 * y.1 - into x.2 * y.2) % _ = (x.1 * y.1 - x.2 * y.2) % _; omega)) (into_eq (by show (into x.1 * y.2 + into x.2 * y.1) % _ = (x.1 * y.2 + x.2 * y.1) % _; omega))

theorem norm_mul_r (x y : Int × Int) : norm (cmul x (norm y)) = norm (cmul x y) := by
  have h1 := mul_mod_r x.1 y.1; have h2 := mul_mod_r x.2 y.2; have h3 := mul_mod_r x.1 y.2; have h4 := mul_mod_r x.2 y.1
  unfold norm cmul
  exact Prod.ext (into_eq (by show (x.1 * into y.1 - x.2 * into y.2) % _ = (x.1 * y.1 - x.2 * y.2) % _; omega)) (into_eq (by show (x.1 * into y.2 + x.2 * into y.1) % _ = (x.1 * y.2 + x.2 * y.1) % _; omega))

theorem norm_add_l (x y : Int × Int) : norm (cadd (norm x) y) = norm (cadd x y) := by
  have h1 := into_mod x.1; have h2 := into_mod x.2
  unfold norm cadd
  exact Prod.ext (into_eq (by show (into x.1 + y.1) % _ = (x.1 + y.1) % _; omega)) (into_eq (by show (into x.2 + y.2) % _ = (x.2 + y.2) % _; omega))

theorem norm_add_r (x y : Int × Int) : norm (cadd x (norm y)) = norm (cadd x y) := by
  have h1 := into_mod y.1; have h2 := into_mod y.2
  unfold norm cadd
  exact Prod.ext (into_eq (by show (x.1 + into y.1) % _ = (x.1 + y.1) % _; omega)) (into_eq (by show (x.2 + into y.2) % _ = (x.2 + y.2) % _; omega))

theorem one_cmul (x : Int × Int) : cmul (1, 0) x = x := by
  unfold cmul; exact Prod.ext (by simp) (by simp)

theorem zero_cadd (x : Int × Int) : cadd (0, 0) x = x := by
  unfold cadd; exact Prod.ext (by simp) (by simp)

theorem cmul_comm (x y : Int × Int) : cmul x y = cmul y x := by
  unfold cmul; exact Prod.ext (by grind) (by grind)

theorem cmul_assoc (x y z : Int × Int) : cmul (cmul x y) z = cmul x (cmul y z) := by
  unfold cmul; exact Prod.ext (by grind) (by grind)

theorem cmul_cadd (x y z : Int × Int) : cmul x (cadd y z) = cadd (cmul x y) (cmul x z) := by
  unfold cmul cadd; exact Prod.ext (by grind) (by grind)

theorem prod2 (x y : Int × Int) : prodV [x, y] = norm (cmul x y) := by
  show mulV (mulV (1, 0) x) y = _
  rw [mulV_eq, mulV_eq, one_cmul, norm_mul_l]

theorem prod3 (x y z : Int × Int) : prodV [x, y, z] = norm (cmul (cmul x y) z) := by
  show mulV (mulV (mulV (1, 0) x) y) z = _
  rw [mulV_eq, mulV_eq, mulV_eq, one_cmul, norm_mul_l x, norm_mul_l]

theorem sum2 (x y : Int × Int) : sumV [x, y] = norm (cadd x y) := by
  show addV (addV (0, 0) x) y = _
  rw [addV_eq, addV_eq, zero_cadd, norm_add_l]

theorem sub_eq (x y : Int × Int) : (into (into x.1 - into y.1), into (into x.2 - into y.2)) = norm (csub x y) := by
  have h1 := into_mod x.1; have h2 := into_mod x.2; have h3 := into_mod y.1; have h4 := into_mod y.2
  unfold norm csub
  exact Prod.ext (into_eq (by show (into x.1 - into y.1) % _ = (x.1 - y.1) % _; omega)) (into_eq (by show (into x.2 - into y.2) % _ = (x.2 - y.2) % _; omega))

theorem sub_add (x y : Int × Int) : cadd (csub x y) y = x := by
  unfold cadd csub; exact Prod.ext (by show x.1 - y.1 + y.1 = x.1; omega) (by show x.2 - y.2 + y.2 = x.2; omega)

theorem neg_neg_into (n : Int) : into (-into (-into n)) = into n := by
  have h1 := into_mod n; have h2 := into_mod (-into n)
  exact into_eq (by omega)

theorem dist2 (x y z : Int × Int) : prodV [x, sumV [y, z]] = sumV [prodV [x, y], prodV [x, z]] := by
  rw [prod2, sum2, sum2, prod2, prod2, norm_mul_r, norm_add_l, norm_add_r, cmul_cadd]

theorem turn3 (x y z : Int × Int) : prodV [x, y, z] = prodV [z, y, x] := by
  rw [prod3, prod3, cmul_comm (cmul x y) z, cmul_comm x y, cmul_assoc]

theorem turn2 (x y : Int × Int) : prodV [x, y] = prodV [y, x] := by
  rw [prod2, prod2, cmul_comm]

theorem back2 (x y : Int × Int) : sumV [(into (into x.1 - into y.1), into (into x.2 - into y.2)), y] = norm x := by
  rw [sum2, sub_eq, norm_add_l, sub_add]

theorem conj_real (x : Int × Int) : (prodV [x, (into x.1, into (-into x.2))]).2 = 0 := by
  have e : ((into x.1, into (-into x.2)) : Int × Int) = norm (cconj x) := by
    have h2 := into_mod x.2
    unfold norm cconj
    exact Prod.ext rfl (into_eq (by show (-into x.2) % _ = (-x.2) % _; omega))
  rw [prod2, e, norm_mul_r]
  show into (x.1 * -x.2 + x.2 * x.1) = 0
  rw [show x.1 * -x.2 + x.2 * x.1 = 0 by grind, into_of 0 (by omega) (by omega)]

theorem prod_right (x y : Int × Int) : into (prodV [x, y]).1 = (prodV [x, y]).1 ∧ into (prodV [x, y]).2 = (prodV [x, y]).2 := by
  rw [prod2]; exact ⟨into_into _, into_into _⟩

theorem prod2_i64 (x y : Int × Int) : I64 (prodV [x, y]).1 ∧ I64 (prodV [x, y]).2 := by rw [prod2]; exact ⟨into_i64 _, into_i64 _⟩

theorem sum2_i64 (x y : Int × Int) : I64 (sumV [x, y]).1 ∧ I64 (sumV [x, y]).2 := by rw [sum2]; exact ⟨into_i64 _, into_i64 _⟩

/-- A new slice of two values, of three. -/
theorem SlV.two (w : World) (a b c d : Int) (t : TypeId) :
    SlV (w.alloc (.cells #[.int .i64 a, .int .i64 b, .int .i64 c, .int .i64 d] t)) (w.alloc (.cells #[.int .i64 a, .int .i64 b, .int .i64 c, .int .i64 d] t)).heap.size (.slice (some ⟨w.heap.size, 0, none⟩) 2 2) [(a, b), (c, d)] := by
  refine ⟨_, _, rfl, Nat.le_refl _, fun _ => ⟨_, 0, rfl, by simp, fun j hj => ?_⟩⟩
  match j, hj with
  | 0, _ => exact ⟨by simp [World.cell?_alloc_new], by simp [World.cell?_alloc_new]⟩
  | 1, _ => exact ⟨by simp [World.cell?_alloc_new], by simp [World.cell?_alloc_new]⟩

theorem SlV.three (w : World) (a b c d e f : Int) (t : TypeId) :
    SlV (w.alloc (.cells #[.int .i64 a, .int .i64 b, .int .i64 c, .int .i64 d, .int .i64 e, .int .i64 f] t)) (w.alloc (.cells #[.int .i64 a, .int .i64 b, .int .i64 c, .int .i64 d, .int .i64 e, .int .i64 f] t)).heap.size (.slice (some ⟨w.heap.size, 0, none⟩) 3 3) [(a, b), (c, d), (e, f)] := by
  refine ⟨_, _, rfl, Nat.le_refl _, fun _ => ⟨_, 0, rfl, by simp, fun j hj => ?_⟩⟩
  match j, hj with
  | 0, _ => exact ⟨by simp [World.cell?_alloc_new], by simp [World.cell?_alloc_new]⟩
  | 1, _ => exact ⟨by simp [World.cell?_alloc_new], by simp [World.cell?_alloc_new]⟩
  | 2, _ => exact ⟨by simp [World.cell?_alloc_new], by simp [World.cell?_alloc_new]⟩

theorem i64_two {a b c d : Int} (h1 : I64 a ∧ I64 b) (h2 : I64 c ∧ I64 d) : ∀ j, j < [(a, b), (c, d)].length → I64 ([(a, b), (c, d)].getD j (0, 0)).1 ∧ I64 ([(a, b), (c, d)].getD j (0, 0)).2 := by
  intro j hj
  match j, hj with
  | 0, _ => exact h1
  | 1, _ => exact h2

theorem i64_three {a b c d e f : Int} (h1 : I64 a ∧ I64 b) (h2 : I64 c ∧ I64 d) (h3 : I64 e ∧ I64 f) : ∀ j, j < [(a, b), (c, d), (e, f)].length → I64 ([(a, b), (c, d), (e, f)].getD j (0, 0)).1 ∧ I64 ([(a, b), (c, d), (e, f)].getD j (0, 0)).2 := by
  intro j hj
  match j, hj with
  | 0, _ => exact h1
  | 1, _ => exact h2
  | 2, _ => exact h3

theorem from_new {W w w' : World} {o : Obj} (hb : Hid (Below W.heap.size W w)) (h : Below (w.alloc o).heap.size (w.alloc o) w') : Hid (Below W.heap.size W w') :=
  hid ((hb.out.alloc hb.out.size o).trans (h.mono (by have := hb.out.size; simp; omega)))

/-- What a function of values answers, told from a world W that lies ahead. -/
def Gives (p q : Int) (W : World) (e : Ending) (w' : World) : Prop := e = .returned (val p q) ∧ Hid (Below W.heap.size W w')

theorem mul_2 {W : World} (a b c d p q : Int) (t : TypeId) (h : Hid (prodV [(a, b), (c, d)] = (p, q))) (h1 : Hid (I64 a ∧ I64 b)) (h2 : Hid (I64 c ∧ I64 d)) (w : World) (hb : Hid (Below W.heap.size W w)) :
    Calls Tryd.prog 74 #[.slice (some ⟨w.heap.size, 0, none⟩) 2 2] (w.alloc (.cells #[.int .i64 a, .int .i64 b, .int .i64 c, .int .i64 d] t)) (Gives p q W) :=
  (mul_any _ [(a, b), (c, d)] _ (SlV.two w a b c d t) (by simp) (i64_two h1.out h2.out)).mono fun e w' ⟨he, hw⟩ => ⟨by rw [he, h.out], from_new hb hw⟩

theorem mul_3 {W : World} (a b c d k l p q : Int) (t : TypeId) (h : Hid (prodV [(a, b), (c, d), (k, l)] = (p, q))) (h1 : Hid (I64 a ∧ I64 b)) (h2 : Hid (I64 c ∧ I64 d)) (h3 : Hid (I64 k ∧ I64 l)) (w : World) (hb : Hid (Below W.heap.size W w)) :
    Calls Tryd.prog 74 #[.slice (some ⟨w.heap.size, 0, none⟩) 3 3] (w.alloc (.cells #[.int .i64 a, .int .i64 b, .int .i64 c, .int .i64 d, .int .i64 k, .int .i64 l] t)) (Gives p q W) :=
  (mul_any _ [(a, b), (c, d), (k, l)] _ (SlV.three w a b c d k l t) (by simp) (i64_three h1.out h2.out h3.out)).mono fun e w' ⟨he, hw⟩ => ⟨by rw [he, h.out], from_new hb hw⟩

theorem add_2 {W : World} (a b c d p q : Int) (t : TypeId) (h : Hid (sumV [(a, b), (c, d)] = (p, q))) (h1 : Hid (I64 a ∧ I64 b)) (h2 : Hid (I64 c ∧ I64 d)) (w : World) (hb : Hid (Below W.heap.size W w)) :
    Calls Tryd.prog 72 #[.slice (some ⟨w.heap.size, 0, none⟩) 2 2] (w.alloc (.cells #[.int .i64 a, .int .i64 b, .int .i64 c, .int .i64 d] t)) (Gives p q W) :=
  (add_any _ [(a, b), (c, d)] _ (SlV.two w a b c d t) (by simp) (i64_two h1.out h2.out)).mono fun e w' ⟨he, hw⟩ => ⟨by rw [he, h.out], from_new hb hw⟩

theorem of_from {W : World} (a b p q : Int) (h1 : Hid (I64 a ∧ I64 b)) (hp : Hid (into a = p)) (hq : Hid (into b = q)) (w : World) (hb : Hid (Below W.heap.size W w)) :
    Calls Tryd.prog 49 #[.int .i64 a, .int .i64 b] w (Gives p q W) :=
  (of_any a b h1.out.1 h1.out.2 w).mono fun e w' ⟨he, hw⟩ => ⟨by rw [he, hp.out, hq.out], hid (hb.out.trans (hw.mono hb.out.size))⟩

theorem turn_from {W : World} (a b p q : Int) (h1 : Hid (I64 a ∧ I64 b)) (hp : Hid (into (-into b) = p)) (hq : Hid (into a = q)) (w : World) (hb : Hid (Below W.heap.size W w)) :
    Calls Tryd.prog 53 #[val a b] w (Gives p q W) :=
  (turn_any a b h1.out.1 h1.out.2 w).mono fun e w' ⟨he, hw⟩ => ⟨by rw [he, hp.out, hq.out], hid (hb.out.trans (hw.mono hb.out.size))⟩

theorem conj_from {W : World} (a b p q : Int) (h1 : Hid (I64 a ∧ I64 b)) (hp : Hid (into a = p)) (hq : Hid (into (-into b) = q)) (w : World) (hb : Hid (Below W.heap.size W w)) :
    Calls Tryd.prog 52 #[val a b] w (Gives p q W) :=
  (conj_any a b h1.out.1 h1.out.2 w).mono fun e w' ⟨he, hw⟩ => ⟨by rw [he, hp.out, hq.out], hid (hb.out.trans (hw.mono hb.out.size))⟩

theorem sub_from {W : World} (a b c d p q : Int) (h1 : Hid (I64 a ∧ I64 b)) (h2 : Hid (I64 c ∧ I64 d)) (hp : Hid (into (into a - into c) = p)) (hq : Hid (into (into b - into d) = q)) (w : World) (hb : Hid (Below W.heap.size W w)) :
    Calls Tryd.prog 73 #[val a b, val c d] w (Gives p q W) :=
  (sub_any a b c d h1.out.1 h1.out.2 h2.out.1 h2.out.2 w).mono fun e w' ⟨he, hw⟩ => ⟨by rw [he, hp.out, hq.out], hid (hb.out.trans (hw.mono hb.out.size))⟩

/-- What a function that tells answers. -/
def Tells (p : Bool) (W : World) (e : Ending) (w' : World) : Prop := e = .returned (.bool p) ∧ Hid (Below W.heap.size W w')

theorem right_from {W : World} (a b : Int) (p : Bool) (h1 : Hid (I64 a ∧ I64 b)) (hp : Hid ((decide (a = into a) && decide (b = into b)) = p)) (w : World) (hb : Hid (Below W.heap.size W w)) :
    Calls Tryd.prog 34 #[val a b] w (Tells p W) :=
  (right_any a b h1.out.1 h1.out.2 w).mono fun e w' ⟨he, hw⟩ => ⟨by rw [he, hp.out], hid (hb.out.trans (hw.mono hb.out.size))⟩

/-- A box of two cells. -/
theorem eql_same (p q : Int) (w : World) : (binOp .eql 24 (val p q) (val p q)).run Tryd.prog w = .ok (.bool true) w := by
  rw [eql_val]; simp

end Go.Proofs.YtfohdoahddommaaDoor
