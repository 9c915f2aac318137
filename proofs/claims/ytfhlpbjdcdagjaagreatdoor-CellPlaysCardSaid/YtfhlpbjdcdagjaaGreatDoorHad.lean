/- Layer 3, gauss: a contract for each function that reckons. -/
import Derived.Test.YtfhlpbjdcdagjaaGreatDoorHac
import Derived.Laws.BitsLemmas
import Derived.Deep.RegionHeld3
import Derived.Deep.RegionLaw
import Derived.Laws.StructEq
namespace Go.Proofs.YtfhlpbjdcdagjaaGreatDoor
open Go.RowKit
set_option linter.unusedVariables false
set_option maxRecDepth 100000

/-- A number taken into the range. -/
def into (n : Int) : Int := (n + 524288) % 1048576 - 524288

theorem into_def (n : Int) : into n = (n + 524288) % 1048576 - 524288 := rfl

theorem into_ge (n : Int) : -524288 ≤ into n := by unfold into; omega

theorem into_le (n : Int) : into n ≤ 524287 := by unfold into; omega

theorem into_abs (n : Int) : (into n).natAbs ≤ 1048576 := by unfold into; omega

theorem into_of (n : Int) (h0 : -524288 ≤ n) (h1 : n ≤ 524287) : into n = n := by unfold into; omega

theorem into_into (n : Int) : into (into n) = into n := into_of _ (into_ge n) (into_le n)

theorem into_eq {a b : Int} (h : a % 1048576 = b % 1048576) : into a = into b := by unfold into; omega

theorem into_mod (n : Int) : into n % 1048576 = n % 1048576 := by unfold into; omega
attribute [irreducible] into

theorem into_i64 (n : Int) : I64 (into n) := ⟨by have := into_ge n; omega, by have := into_le n; omega⟩

theorem i64_mask (n : Int) : bits .and .i64 n 1048575 = n % 1048576 := by
  have h20 : (BitVec.ofInt 64 1048575).toNat = 2 ^ 20 - 1 := by decide
  have key : (BitVec.ofInt 64 n &&& BitVec.ofInt 64 1048575).toNat = (n % ((2 ^ 64 : Nat) : Int)).toNat % 2 ^ 20 := by
    rw [BitVec.toNat_and, BitVec.toNat_ofInt, h20, Nat.and_two_pow_sub_one_eq_mod]
  show IntKind.i64.wrap ((BitVec.ofInt 64 n &&& BitVec.ofInt 64 1048575).toNat : Nat) = n % 1048576
  rw [key, IntKind.wrap_i64]
  omega

theorem within_any (n : Int) (h : I64 n) (w : World) :
    Calls Tryz.prog 68 #[.int .i64 n] w fun e w' => e = .returned (.int .i64 (into n)) ∧ w = w' := by
  have HE : Hid (wrap64 (bits .and .i64 (wrap64 (n + 524288)) 1048575 - 524288) = into n) := hid (by
    rw [i64_mask, into_def]; unfold wrap64; omega)
  clear h
  go_enter Tryz.func68, Tryz.ntmps68
  go_wp2
  go_ret
  exact ⟨ret_int HE.out, rfl⟩

set_option maxHeartbeats 400000 in
theorem of_any (m n : Int) (hm : I64 m) (hn : I64 n) (w : World) :
    Calls Tryz.prog 46 #[.int .i64 m, .int .i64 n] w fun e w' => e = .returned (val (into m) (into n)) ∧ Below w.heap.size w w' := by
  have HM := hid hm; have HN := hid hn; clear hm hn
  go_enter Tryz.func46, Tryz.ntmps46
  go_wp2_with fail
  refine (within_any m HM.out _).mono ?_
  rintro e w1 ⟨rfl, rfl⟩
  go_wp2_with fail
  refine (within_any n HN.out _).mono ?_
  rintro e w1 ⟨rfl, rfl⟩
  go_wp2
  refine bodyPost_ret (v := val (into m) (into n)) (by simp [results, Tryz.results46, go_sem]) rfl ⟨rfl, ?_⟩
  exact (Below.refl _ w).alloc (Nat.le_refl _) _

theorem below_two {w w1 w2 : World} {o p : Obj} (hb : Below ((w.alloc o).alloc p).heap.size ((w.alloc o).alloc p) w1) (hb2 : Below w1.heap.size w1 w2) (u v : Value) : Below w.heap.size w ((w2.setCell ⟨w.heap.size + 1, 0, none⟩ u).setCell ⟨w.heap.size + 1, 1, none⟩ v) := by
  have h0 : Below w.heap.size w w1 := (((Below.refl _ w).alloc (Nat.le_refl _) o).alloc (by simp) p).trans (hb.mono (by simp; omega))
  exact ((h0.trans (hb2.mono h0.size)).setCell (by simp only; omega) _).setCell (by simp only; omega) _

def NumPost (m n : Int) (w : World) (e : Ending) (w' : World) : Prop := ∃ v, Cx v m n ∧ e = .returned v ∧ Below w.heap.size w w'

set_option maxHeartbeats 400000 in
theorem number_any (m n : Int) (hm : I64 m) (hn : I64 n) (w : World) :
    Calls Tryz.prog 113 #[val m n] w (NumPost (into m) (into n) w) := by
  have HM := hid hm; have HN := hid hn; clear hm hn
  go_enter Tryz.func113, Tryz.ntmps113
  go_wp2_with fail
  refine (of_any m n HM.out HN.out _).mono ?_
  rintro e w1 ⟨rfl, hb⟩
  obtain ⟨hc, hf⟩ := bcell hb
  have HB := hid hb; clear hb
  have hz : w.heap.size < w1.heap.size := by have := HB.out.size; simp at this; omega
  go_wp2
  go_ret
  refine ⟨_, ⟨_, _, rfl, fl_int _ ?_, fl_int _ ?_⟩, rfl, ?_⟩
  · have := into_abs m; omega
  · have := into_abs n; omega
  · exact below_set2 HB.out _ _

set_option maxHeartbeats 400000 in
theorem value_any (v : Value) (m n : Int) (hv : Cx v m n) (hm : I64 m) (hn : I64 n) (w : World) :
    Calls Tryz.prog 133 #[v] w fun e w' => e = .returned (val (into m) (into n)) ∧ Below w.heap.size w w' := by
  obtain ⟨x, y, rfl, hx, hy⟩ := hv
  have c1 : ∀ w : World, (convert 205 3 (.float .f64 x)).run Tryz.prog w = .ok (.int .i64 m) w := fun w => run_convert_float_int w _ _ .f64 .i64 x m (by simp [Tryz.underlying205]) Tryz.underlying3 (fl_toInt hx hm.1 hm.2)
  have c2 : ∀ w : World, (convert 205 3 (.float .f64 y)).run Tryz.prog w = .ok (.int .i64 n) w := fun w => run_convert_float_int w _ _ .f64 .i64 y n (by simp [Tryz.underlying205]) Tryz.underlying3 (fl_toInt hy hn.1 hn.2)
  have HM := hid hm; have HN := hid hn; clear hm hn hx hy
  go_enter Tryz.func133, Tryz.ntmps133
  go_wp2_with fail
  refine (of_any m n HM.out HN.out _).mono ?_
  rintro e w1 ⟨rfl, hb⟩
  obtain ⟨hc, hf⟩ := bcell hb
  have HB := hid hb; clear hb
  have hz : w.heap.size < w1.heap.size := by have := HB.out.size; simp at this; omega
  go_wp2
  refine bodyPost_ret (v := val (into m) (into n)) (by simp [results, Tryz.results133, go_sem, hc]) rfl ⟨rfl, ?_⟩
  exact below_set2 HB.out _ _

/-- The same, told from a world W that lies ahead. -/
def NumFrom (m n : Int) (W : World) (e : Ending) (w' : World) : Prop := ∃ v, Hid (Cx v m n) ∧ e = .returned v ∧ Hid (Below W.heap.size W w')

theorem number_from {W : World} (m n : Int) (hm : Hid (I64 m)) (hn : Hid (I64 n)) (w : World) (hb : Hid (Below W.heap.size W w)) :
    Calls Tryz.prog 113 #[val m n] w (NumFrom (into m) (into n) W) :=
  (number_any m n hm.out hn.out w).mono fun e w' ⟨v, hv, he, h⟩ => ⟨v, hid hv, he, hid (hb.out.trans (h.mono hb.out.size))⟩

theorem value_from {W : World} (v : Value) (m n : Int) (hv : Hid (Cx v m n)) (hm : I64 m) (hn : I64 n) (w : World) (hb : Hid (Below W.heap.size W w)) :
    Calls Tryz.prog 133 #[v] w fun e w' => e = .returned (val (into m) (into n)) ∧ Hid (Below W.heap.size W w') :=
  (value_any v m n hv.out hm hn w).mono fun e w' ⟨he, h⟩ => ⟨he, hid (hb.out.trans (h.mono hb.out.size))⟩

theorem i64_diff (a b : Int) : I64 (into a - into b) := by
  have := into_ge a; have := into_le a; have := into_ge b; have := into_le b
  constructor <;> omega

theorem i64_sum (a b : Int) : I64 (into a + into b) := by
  have := into_ge a; have := into_le a; have := into_ge b; have := into_le b
  constructor <;> omega

theorem cx_sub' {x y : Value} {a b c d : Int} (hx : Hid (Cx x (into a) (into b))) (hy : Hid (Cx y (into c) (into d))) :
    ∃ r, Hid (Cx r (into a - into c) (into b - into d)) ∧ ∀ w : World, (binOp .sub 178 x y).run Tryz.prog w = .ok r w := by
  have := into_abs a; have := into_abs b; have := into_abs c; have := into_abs d
  obtain ⟨r, h1, h2⟩ := cx_sub (P := Tryz.prog) 178 hx.out hy.out (by omega) (by omega)
  exact ⟨r, hid h1, h2⟩

/-- Two new blocks of two cells each. -/
theorem cells2 (w : World) (a b c d : Value) (t : TypeId) : ∃ W : World, (w.alloc (.cells #[a, b] t)).alloc (.cells #[c, d] t) = W ∧
    (W.cell? ⟨w.heap.size, 0, none⟩ = some a ∧ W.cell? ⟨w.heap.size, 1, none⟩ = some b ∧ W.cell? ⟨w.heap.size + 1, 0, none⟩ = some c ∧ W.cell? ⟨w.heap.size + 1, 1, none⟩ = some d) ∧
    (w.heap.size < W.heap.size ∧ w.heap.size + 1 < W.heap.size) ∧ Hid (Below W.heap.size W W.drew) ∧ Hid (Below w.heap.size w W) := by
  refine ⟨_, rfl, ⟨?_, ?_, ?_, ?_⟩, ⟨?_, ?_⟩, ?_, ?_⟩
  all_goals first | exact hid (Below.refl _ _).drew | exact hid (((Below.refl _ _).alloc (Nat.le_refl _) _).alloc (by simp) _) | (go_simp; done) | (simp; done) | (simp; omega)

/-- Three new blocks of two cells each. -/
theorem cells3 (w : World) (a b c d p q : Value) (t : TypeId) : ∃ W : World, ((w.alloc (.cells #[a, b] t)).alloc (.cells #[c, d] t)).alloc (.cells #[p, q] t) = W ∧
    (W.cell? ⟨w.heap.size, 0, none⟩ = some a ∧ W.cell? ⟨w.heap.size, 1, none⟩ = some b ∧ W.cell? ⟨w.heap.size + 1, 0, none⟩ = some c ∧ W.cell? ⟨w.heap.size + 1, 1, none⟩ = some d ∧ W.cell? ⟨w.heap.size + 1 + 1, 0, none⟩ = some p ∧ W.cell? ⟨w.heap.size + 1 + 1, 1, none⟩ = some q) ∧
    (W.frozen? ⟨w.heap.size + 1 + 1, 0, none⟩ = false ∧ W.frozen? ⟨w.heap.size + 1 + 1, 1, none⟩ = false) ∧
    (w.heap.size < W.heap.size ∧ w.heap.size + 1 < W.heap.size ∧ w.heap.size + 1 + 1 < W.heap.size) ∧ Hid (Below W.heap.size W W.drew) ∧ Hid (Below w.heap.size w W) := by
  refine ⟨_, rfl, ⟨?_, ?_, ?_, ?_, ?_, ?_⟩, ⟨?_, ?_⟩, ⟨?_, ?_, ?_⟩, ?_, ?_⟩
  all_goals first | exact hid (Below.refl _ _).drew | exact hid ((((Below.refl _ _).alloc (Nat.le_refl _) _).alloc (by simp) _).alloc (by simp; omega) _) | (go_simp; done) | (simp; done) | (simp; omega)

set_option maxHeartbeats 1000000 in
theorem sub_any (a b c d : Int) (ha : I64 a) (hb : I64 b) (hc : I64 c) (hd : I64 d) (w : World) :
    Calls Tryz.prog 135 #[val a b, val c d] w fun e w' => e = .returned (val (into (into a - into c)) (into (into b - into d))) ∧ Below w.heap.size w w' := by
  have HA := hid ha; have HB := hid hb; have HC := hid hc; have HD := hid hd; clear ha hb hc hd
  go_enter Tryz.func135, Tryz.ntmps135
  go_wp2_with fail
  obtain ⟨W, hW, ⟨k1, k2, k3, k4, k5, k6⟩, ⟨k7, k8⟩, ⟨l0, l1, l2⟩, h0, HW⟩ := cells3 w (.int .i64 a) (.int .i64 b) (.int .i64 c) (.int .i64 d) (.int .i64 0) (.int .i64 0) 31
  rw [hW]; clear hW
  go_region_law (first
    | (go_simp; go_at_call 113; (first | ((with_reducible refine (number_from (W := W) a b HA HB _ ?_).mono ?_); assumption; rintro e w' ⟨v1, hv1, rfl, hb⟩; obtain ⟨hc, hf⟩ := bcell hb.out) | ((with_reducible refine (number_from (W := W) c d HC HD _ ?_).mono ?_); assumption; rintro e w' ⟨v2, hv2, rfl, hb⟩; obtain ⟨hc, hf⟩ := bcell hb.out; obtain ⟨r, hr, hrun⟩ := cx_sub' hv1 hv2)))
    | (go_simp; go_at_call 133; refine (value_from (W := W) _ _ _ hr (i64_diff a c) (i64_diff b d) _ ?_).mono ?_; assumption; rintro e w' ⟨rfl, hb⟩; obtain ⟨hc, hf⟩ := bcell hb.out))
  all_goals
    go_wp2
    refine bodyPost_ret (v := val (into (into a - into c)) (into (into b - into d))) (by simp [results, Tryz.results135, go_sem, hc, k5, k6, l2]) rfl ⟨rfl, ?_⟩
    exact ((HW.out.trans (hb.out.mono HW.out.size)).setCell (by simp only; omega) _).setCell (by simp only; omega) _

theorem fl_const0 : Fl 0 0 := by
  obtain ⟨c, hc⟩ : ∃ c : Nat, 1074 = c := ⟨_, rfl⟩
  exact fl_read c (s := false) (m := 0) (by rw [← hc]; rfl) (by rw [Int.zero_mul]; rfl)

theorem fl_const1 : Fl 4607182418800017408 1 := fl_read 52 (s := false) (m := 4503599627370496) rfl (by decide)

theorem cx_one : Cx (.complex .f64 4607182418800017408 0) 1 0 := ⟨_, _, rfl, fl_const1, fl_const0⟩

theorem cx_i : Cx (.complex .f64 0 4607182418800017408) 0 1 := ⟨_, _, rfl, fl_const0, fl_const1⟩

theorem cx_neg_part {v : Value} {m n : Int} (h : Cx v m n) : ∃ x y, v = .complex .f64 x y ∧ Cx (.complex .f64 x (Op.negFloat .f64 y)) m (-n) := by
  obtain ⟨x, y, rfl, hx, hy⟩ := h
  exact ⟨x, y, rfl, _, _, rfl, hx, fl_neg hy⟩

theorem i64_neg (a : Int) : I64 (-into a) := by
  have := into_ge a; have := into_le a
  constructor <;> omega

set_option maxHeartbeats 1000000 in
theorem conj_any (a b : Int) (ha : I64 a) (hb : I64 b) (w : World) :
    Calls Tryz.prog 115 #[val a b] w fun e w' => e = .returned (val (into a) (into (-into b))) ∧ Below w.heap.size w w' := by
  have HA := hid ha; have HB := hid hb; clear ha hb
  have HI := into_into a
  go_enter Tryz.func115, Tryz.ntmps115
  go_wp2_with fail
  refine (number_any a b HA.out HB.out _).mono ?_
  rintro e w1 ⟨v, hv, rfl, hb⟩
  obtain ⟨x, y, rfl, hc'⟩ := cx_neg_part hv
  have HC := hid hc'; clear hc' hv
  have hun : ∀ w : World, (Op.unary .neg (.float .f64 y)).run Tryz.prog w = .ok (.float .f64 (Op.negFloat .f64 y)) w := fun w => rfl
  obtain ⟨z, hz⟩ : ∃ z, Op.negFloat .f64 y = z := ⟨_, rfl⟩
  rw [hz] at hun HC
  clear hz
  obtain ⟨hc, hf⟩ := bcell hb
  have HB1 := hid hb; clear hb
  have l0 : w.heap.size < w1.heap.size := by have := HB1.out.size; simp at this; omega
  have l1 : w.heap.size + 1 < w1.heap.size := by have := HB1.out.size; simp at this; omega
  go_wp2_with fail
  refine (value_any _ _ _ HC.out (into_i64 a) (i64_neg b) _).mono ?_
  rintro e w2 ⟨rfl, hb⟩
  obtain ⟨hc2, hf2⟩ := bcell hb
  have HB2 := hid hb; clear hb
  go_wp2
  refine bodyPost_ret (v := val (into a) (into (-into b))) (by simp [results, Tryz.results115, go_sem, hc, hc2, l1]) rfl ⟨rfl, ?_⟩
  exact below_two HB1.out HB2.out _ _

theorem cx_turn {v : Value} {m n : Int} (h : Hid (Cx v (into m) (into n))) :
    ∃ r, Hid (Cx r (-into n) (into m)) ∧ ∀ w : World, (binOp .mul 178 v (.complex .f64 0 4607182418800017408)).run Tryz.prog w = .ok r w := by
  have := into_abs m; have := into_abs n
  obtain ⟨r, h1, h2⟩ := cx_mul (P := Tryz.prog) 178 h.out cx_i (by omega) (by omega) (by omega) (by omega)
  rw [show into m * 0 - into n * 1 = -into n by omega, show into m * 1 + into n * 0 = into m by omega] at h1
  exact ⟨r, hid h1, h2⟩

set_option maxHeartbeats 1000000 in
theorem turn_any (a b : Int) (ha : I64 a) (hb : I64 b) (w : World) :
    Calls Tryz.prog 116 #[val a b] w fun e w' => e = .returned (val (into (-into b)) (into a)) ∧ Below w.heap.size w w' := by
  have HA := hid ha; have HB := hid hb; clear ha hb
  have HI := into_into a
  go_enter Tryz.func116, Tryz.ntmps116
  go_wp2_with fail
  refine (number_any a b HA.out HB.out _).mono ?_
  rintro e w1 ⟨v, hv, rfl, hb⟩
  obtain ⟨r, hr, hrun⟩ := cx_turn (hid hv)
  have HV := hid hv; clear hv
  obtain ⟨hc, hf⟩ := bcell hb
  have HB1 := hid hb; clear hb
  have l0 : w.heap.size < w1.heap.size := by have := HB1.out.size; simp at this; omega
  have l1 : w.heap.size + 1 < w1.heap.size := by have := HB1.out.size; simp at this; omega
  go_wp2_with fail
  refine (value_any _ _ _ hr.out (i64_neg b) (into_i64 a) _).mono ?_
  rintro e w2 ⟨rfl, hb⟩
  obtain ⟨hc2, hf2⟩ := bcell hb
  have HB2 := hid hb; clear hb
  go_wp2
  refine bodyPost_ret (v := val (into (-into b)) (into a)) (by simp [results, Tryz.results116, go_sem, hc, hc2, l1]) rfl ⟨rfl, ?_⟩
  exact below_two HB1.out HB2.out _ _

theorem below_one {w w1 : World} {o : Obj} (hb : Below (w.alloc o).heap.size (w.alloc o) w1) : Below w.heap.size w w1 := ((Below.refl _ w).alloc (Nat.le_refl _) o).trans (hb.mono (by simp))

set_option maxHeartbeats 1000000 in
theorem zero_any (a b : Int) (ha : I64 a) (hb : I64 b) (w : World) :
    Calls Tryz.prog 88 #[val a b] w fun e w' => e = .returned (.bool (decide (into a = 0) && decide (into b = 0))) ∧ Below w.heap.size w w' := by
  have HA := hid ha; have HB := hid hb; clear ha hb
  go_enter Tryz.func88, Tryz.ntmps88
  go_wp2_with fail
  refine (number_any a b HA.out HB.out _).mono ?_
  rintro e w1 ⟨v, ⟨x, y, rfl, hx, hy⟩, rfl, hb⟩
  have h1 := fl_eq hx fl_const0
  have h2 := fl_eq hy fl_const0
  have HX := hid hx; have HY := hid hy; clear hx hy
  have HB1 := hid hb; clear hb
  have H1 := hid h1; have H2 := hid h2; clear h1 h2
  go_wp2
  go_ret
  refine ⟨ret_bool ?_, below_one HB1.out⟩
  rw [← H1.out, ← H2.out]

def NumXY (m n : Int) (W : World) (e : Ending) (w' : World) : Prop := ∃ x y, Hid (Fl x m) ∧ Hid (Fl y n) ∧ e = .returned (.complex .f64 x y) ∧ Hid (Below W.heap.size W w')

theorem number_xy {W : World} (m n : Int) (hm : Hid (I64 m)) (hn : Hid (I64 n)) (w : World) (hb : Hid (Below W.heap.size W w)) :
    Calls Tryz.prog 113 #[val m n] w (NumXY (into m) (into n) W) :=
  (number_any m n hm.out hn.out w).mono fun e w' ⟨v, ⟨x, y, hv, hx, hy⟩, he, h⟩ => ⟨x, y, hid hx, hid hy, by rw [he, hv], hid (hb.out.trans (h.mono hb.out.size))⟩

set_option maxHeartbeats 1000000 in
theorem less_any (a b c d : Int) (ha : I64 a) (hb : I64 b) (hc : I64 c) (hd : I64 d) (w : World) :
    Calls Tryz.prog 137 #[val a b, val c d] w fun e w' => e = .returned (.bool (decide (into a < into c))) ∧ Below w.heap.size w w' := by
  have HA := hid ha; have HB := hid hb; have HC := hid hc; have HD := hid hd; clear ha hb hc hd
  go_enter Tryz.func137, Tryz.ntmps137
  go_wp2_with fail
  obtain ⟨W, hW, ⟨k1, k2, k3, k4⟩, ⟨l0, l1⟩, h0, HW⟩ := cells2 w (.int .i64 a) (.int .i64 b) (.int .i64 c) (.int .i64 d) 31
  rw [hW]; clear hW
  go_region_law (first
    | (go_simp; go_at_call 113; (first | ((with_reducible refine (number_xy (W := W) a b HA HB _ ?_).mono ?_); assumption; rintro e w' ⟨x1, y1, hx1, hy1, rfl, hb⟩; obtain ⟨hc, hf⟩ := bcell hb.out) | ((with_reducible refine (number_xy (W := W) c d HC HD _ ?_).mono ?_); assumption; rintro e w' ⟨x2, y2, hx2, hy2, rfl, hb⟩; obtain ⟨hc, hf⟩ := bcell hb.out))))
  all_goals
    go_wp2
    go_ret
    exact ⟨ret_bool (fl_lt hx1.out hx2.out), HW.out.trans (hb.out.mono HW.out.size)⟩

theorem eql_val (a b c d : Int) (w : World) : (binOp .eql 31 (val a b) (val c d)).run Tryz.prog w = .ok (.bool (decide (a = c) && decide (b = d))) w := by
  rw [run_eql_struct, run_equalIn_struct w 9999 31 _ _ (by kernel_rfl) (by kernel_rfl)]
  have hf : (Tryz.prog.fieldsOf 31).toList = [{ name := "Re", type := 3, offset := 0, embedded := false, tag := "", pkgPath := "", byteOffset := 0 }, { name := "Im", type := 3, offset := 1, embedded := false, tag := "", pkgPath := "", byteOffset := 8 }] := by kernel_rfl
  rw [hf]
  by_cases h : a = c
  · by_cases h2 : b = d <;> simp [Op.eqFields, part, isAgg, go_sem, Tryz.underlying3, h, h2]
  · simp [Op.eqFields, part, isAgg, go_sem, Tryz.underlying3, h]

set_option maxHeartbeats 1000000 in
theorem right_any (a b : Int) (ha : I64 a) (hb : I64 b) (w : World) :
    Calls Tryz.prog 27 #[val a b] w fun e w' => e = .returned (.bool (decide (a = into a) && decide (b = into b))) ∧ Below w.heap.size w w' := by
  have HA := hid ha; have HB := hid hb; clear ha hb
  have he := eql_val a b (into a) (into b)
  go_enter Tryz.func27, Tryz.ntmps27
  go_wp2_with fail
  go_region_law (first
    | (go_simp; go_at_call 46; ((with_reducible refine (of_any a b HA.out HB.out _).mono ?_); rintro e w' ⟨rfl, hb⟩; have HBB := hid hb; obtain ⟨hc, hf⟩ := bcell hb; clear hb)))
  all_goals
    go_wp2
    go_ret
    exact ⟨rfl, (((Below.refl _ w).alloc (Nat.le_refl _) _).drew).trans (HBB.out.mono (by simp))⟩

def addV (x y : Int × Int) : Int × Int := (into (into x.1 + into y.1), into (into x.2 + into y.2))

def sumV (l : List (Int × Int)) : Int × Int := l.foldl addV (0, 0)

theorem cx_add' {x y : Value} {a b c d : Int} (hx : Hid (Cx x (into a) (into b))) (hy : Hid (Cx y (into c) (into d))) :
    ∃ r, Hid (Cx r (into a + into c) (into b + into d)) ∧ ∀ w : World, (binOp .add 178 x y).run Tryz.prog w = .ok r w := by
  have := into_abs a; have := into_abs b; have := into_abs c; have := into_abs d
  obtain ⟨r, h1, h2⟩ := cx_add (P := Tryz.prog) 178 hx.out hy.out (by omega) (by omega)
  exact ⟨r, hid h1, h2⟩

theorem sumV_snoc (l : List (Int × Int)) (k : Nat) (h : k < l.length) : sumV (l.take (k + 1)) = addV (sumV (l.take k)) (l.getD k (0, 0)) := by
  rw [List.take_succ_eq_append_getElem h, sumV, sumV, List.foldl_append, List.getD_eq_getElem?_getD, List.getElem?_eq_getElem h]
  rfl

/-- The world of the loops of Add and Mul: the result's block, and behind it the block of what was reckoned so far. -/
structure SumSt (w : World) (g : Nat) (x y : Int) (wr : World) : Prop where
  bel : Below w.heap.size w wr
  gt : w.heap.size < g
  sz : g < wr.heap.size
  r0 : wr.cell? ⟨w.heap.size, 0, none⟩ = some (.int .i64 0)
  r1 : wr.cell? ⟨w.heap.size, 1, none⟩ = some (.int .i64 0)
  s0 : wr.cell? ⟨g, 0, none⟩ = some (.int .i64 x)
  s1 : wr.cell? ⟨g, 1, none⟩ = some (.int .i64 y)
  f0 : wr.frozen? ⟨w.heap.size, 0, none⟩ = false
  f1 : wr.frozen? ⟨w.heap.size, 1, none⟩ = false
  f2 : wr.frozen? ⟨g, 0, none⟩ = false
  f3 : wr.frozen? ⟨g, 1, none⟩ = false

theorem SumSt.new (w : World) (x y : Int) (t : TypeId) : SumSt w (w.heap.size + 1) x y ((w.alloc (.cells #[.int .i64 0, .int .i64 0] t)).alloc (.cells #[.int .i64 x, .int .i64 y] t)) := by
  constructor
  all_goals first | exact ((Below.refl _ _).alloc (Nat.le_refl _) _).alloc (by simp) _ | (go_simp; done) | (simp; done) | (simp; omega)

theorem SumSt.box {w wr : World} {g : Nat} {x y : Int} (h : SumSt w g x y wr) (a b : Value) (t : TypeId) : ∃ W : World, wr.alloc (.cells #[a, b] t) = W ∧ SumSt w g x y W ∧
    (W.cell? ⟨wr.heap.size, 0, none⟩ = some a ∧ W.cell? ⟨wr.heap.size, 1, none⟩ = some b) ∧ wr.heap.size < W.heap.size ∧ Hid (Below W.heap.size W W.drew) := by
  have hz := h.sz
  have hg := h.gt
  obtain ⟨hc, hf⟩ := bcell ((Below.refl wr.heap.size wr).alloc (Nat.le_refl _) (.cells #[a, b] t))
  refine ⟨_, rfl, ⟨h.bel.alloc h.bel.size _, h.gt, by simp; omega, ?_, ?_, ?_, ?_, ?_, ?_, ?_, ?_⟩, ⟨?_, ?_⟩, ?_, hid (Below.refl _ _).drew⟩
  · rw [hc _ _ (by omega)]; exact h.r0
  · rw [hc _ _ (by omega)]; exact h.r1
  · rw [hc _ _ (by omega)]; exact h.s0
  · rw [hc _ _ (by omega)]; exact h.s1
  · rw [hf _ _ (by omega)]; exact h.f0
  · rw [hf _ _ (by omega)]; exact h.f1
  · rw [hf _ _ (by omega)]; exact h.f2
  · rw [hf _ _ (by omega)]; exact h.f3
  all_goals first | (go_simp; done) | (simp; done)

theorem SumSt.below {w W w' : World} {g : Nat} {x y : Int} (h : SumSt w g x y W) (hb : Below W.heap.size W w') : SumSt w g x y w' := by
  have hz := h.sz
  have hg := h.gt
  have hs := hb.size
  obtain ⟨hc, hf⟩ := bcell hb
  refine ⟨h.bel.trans (hb.mono h.bel.size), h.gt, by omega, ?_, ?_, ?_, ?_, ?_, ?_, ?_, ?_⟩
  · rw [hc _ _ (by omega)]; exact h.r0
  · rw [hc _ _ (by omega)]; exact h.r1
  · rw [hc _ _ (by omega)]; exact h.s0
  · rw [hc _ _ (by omega)]; exact h.s1
  · rw [hf _ _ (by omega)]; exact h.f0
  · rw [hf _ _ (by omega)]; exact h.f1
  · rw [hf _ _ (by omega)]; exact h.f2
  · rw [hf _ _ (by omega)]; exact h.f3

theorem SumSt.put {w w' : World} {g : Nat} {x y : Int} (h : SumSt w g x y w') (m n : Int) : SumSt w g m n ((w'.setCell ⟨g, 0, none⟩ (.int .i64 m)).setCell ⟨g, 1, none⟩ (.int .i64 n)) := by
  obtain ⟨h0, hg, h1, h2, h3, h4, h5, h6, h7, h8, h9⟩ := h
  refine ⟨(h0.setCell (by simp only; omega) _).setCell (by simp only; omega) _, hg, by simpa using h1, ?_, ?_, ?_, ?_, ?_, ?_, ?_, ?_⟩
  all_goals (go_simp; done)

theorem SumSt.new2 {w w1 : World} (x y : Int) (t : TypeId) (hb : Below (w.alloc (.cells #[.int .i64 0, .int .i64 0] t)).heap.size (w.alloc (.cells #[.int .i64 0, .int .i64 0] t)) w1) : SumSt w w1.heap.size x y (w1.alloc (.cells #[.int .i64 x, .int .i64 y] t)) := by
  have h0 : Below w.heap.size w w1 := below_one hb
  have hz : w.heap.size < w1.heap.size := by have := hb.size; simp at this; omega
  obtain ⟨hc, hf⟩ := bcell hb
  obtain ⟨hc1, hf1⟩ := bcell ((Below.refl w1.heap.size w1).alloc (Nat.le_refl _) (.cells #[.int .i64 x, .int .i64 y] t))
  refine ⟨h0.alloc h0.size _, hz, by simp, ?_, ?_, ?_, ?_, ?_, ?_, ?_, ?_⟩
  · rw [hc1 _ _ hz, hc _ _ (by simp)]; simp
  · rw [hc1 _ _ hz, hc _ _ (by simp)]; simp
  · simp
  · simp
  · rw [hf1 _ _ hz, hf _ _ (by simp)]; simp
  · rw [hf1 _ _ hz, hf _ _ (by simp)]; simp
  · simp
  · simp

set_option maxHeartbeats 2000000 in
theorem add_any (v : Value) (l : List (Int × Int)) (w : World) (hv : SlV w w.heap.size v l) (hl : l.length ≤ 1000000000000) (hi : ∀ j, j < l.length → I64 (l.getD j (0, 0)).1 ∧ I64 (l.getD j (0, 0)).2) :
    Calls Tryz.prog 134 #[v] w fun e w' => e = .returned (val (sumV l).1 (sumV l).2) ∧ Below w.heap.size w w' := by
  have HI := hid hi; clear hi
  obtain ⟨A, c, rfl, hc, hA⟩ := hv
  have HA := hid hA; clear hA
  go_enter Tryz.func134, Tryz.ntmps134
  go_wp2_with fail
  go_loopw [8] (fun i wr => ∃ k : Nat, k ≤ l.length ∧ i = .int .i64 k ∧ SumSt w (w.heap.size + 1) (sumV (l.take k)).1 (sumV (l.take k)).2 wr ∧ I64 (sumV (l.take k)).1 ∧ I64 (sumV (l.take k)).2) (fun i _ => l.length - (intOf i).toNat)
  case atStart => exact ⟨0, Nat.zero_le _, rfl, SumSt.new w 0 0 _, (⟨by decide, by decide⟩ : I64 0), (⟨by decide, by decide⟩ : I64 0)⟩
  case round =>
    obtain ⟨k, hk, rfl, hst, hp, hq⟩ := hrel
    generalize hpe : (sumV (l.take k)).1 = p at hst hp
    generalize hqe : (sumV (l.take k)).2 = q at hst hq
    have HPE := hid hpe; have HQE := hid hqe; clear hpe hqe
    have HP := hid hp; have HQ := hid hq; clear hp hq
    have HS := hid hst
    have ⟨_, _, _, r0, r1, s0, s1, f0, f1, f2, f3⟩ := hst
    clear hst
    by_cases hlt : k < l.length
    · obtain ⟨b, o, rfl, hbB, hcell⟩ := HA.out (by omega)
      obtain ⟨ca, cb⟩ := hcell k hlt
      obtain ⟨ha, hb⟩ := HI.out k hlt
      have HN := hid (sumV_snoc l k hlt)
      generalize hae : (l.getD k (0, 0)).1 = a at ca ha
      generalize hbe : (l.getD k (0, 0)).2 = b' at cb hb
      have HAE := hid hae; have HBE := hid hbe; clear hae hbe
      have HCA := hid ha; have HCB := hid hb; clear ha hb hcell
      have ca' := (HS.out.bel.cell (p := ⟨b, o + k * 2, none⟩) hbB).trans ca
      have cb' := (HS.out.bel.cell (p := ⟨b, o + k * 2 + 1, none⟩) hbB).trans cb
      clear ca cb
      go_wp2_with fail
      obtain ⟨W, hW, hst, ⟨k1, k2⟩, l0, h0⟩ := HS.out.box (.int .i64 a) (.int .i64 b') 31
      rw [hW]; clear hW
      have HT := hid hst
      have ⟨_, _, l1, _, _, q0, q1, _, _, g2, g3⟩ := hst
      clear hst
      go_region_law (first
        | (go_simp; go_at_call 113; (first | ((with_reducible refine (number_from (W := W) p q HP HQ _ ?_).mono ?_); assumption; rintro e w' ⟨v1, hv1, rfl, hb⟩; obtain ⟨hc, hf⟩ := bcell hb.out) | ((with_reducible refine (number_from (W := W) a b' HCA HCB _ ?_).mono ?_); assumption; rintro e w' ⟨v2, hv2, rfl, hb⟩; obtain ⟨hc, hf⟩ := bcell hb.out; obtain ⟨r, hr, hrun⟩ := cx_add' hv1 hv2)))
        | (go_simp; go_at_call 133; refine (value_from (W := W) _ _ _ hr (i64_sum p a) (i64_sum q b') _ ?_).mono ?_; assumption; rintro e w' ⟨rfl, hb⟩; obtain ⟨hc, hf⟩ := bcell hb.out))
      all_goals
        go_wp2
        go_roundw
        case rel =>
          refine ⟨k + 1, by omega, by go_num, ?_⟩
          have e1 : (sumV (l.take (k + 1))).1 = into (into p + into a) := by rw [HN.out, addV, HPE.out, HAE.out]
          have e2 : (sumV (l.take (k + 1))).2 = into (into q + into b') := by rw [HN.out, addV, HQE.out, HBE.out]
          rw [e1, e2]
          exact ⟨(HT.out.below hb.out).put _ _, into_i64 _, into_i64 _⟩
        case measure => simp [intOf]; omega
    · have HK : Hid (k = l.length) := hid (by omega)
      have HE : Hid (l.take k = l) := hid (List.take_of_length_le (by omega))
      go_wp2
      refine bodyPost_ret (v := val p q) (by simp [results, Tryz.results134, go_sem, r0, r1]) rfl ⟨by rw [← HPE.out, ← HQE.out, HE.out], ?_⟩
      exact (HS.out.bel.setCell (by simp only; omega) _).setCell (by simp only; omega) _

def mulV (x y : Int × Int) : Int × Int := (into (into x.1 * into y.1 - into x.2 * into y.2), into (into x.1 * into y.2 + into x.2 * into y.1))

def prodV (l : List (Int × Int)) : Int × Int := l.foldl mulV (1, 0)

theorem prodV_snoc (l : List (Int × Int)) (k : Nat) (h : k < l.length) : prodV (l.take (k + 1)) = mulV (prodV (l.take k)) (l.getD k (0, 0)) := by
  rw [List.take_succ_eq_append_getElem h, prodV, prodV, List.foldl_append, List.getD_eq_getElem?_getD, List.getElem?_eq_getElem h]
  rfl

theorem cx_mul' {x y : Value} {a b c d : Int} (hx : Hid (Cx x (into a) (into b))) (hy : Hid (Cx y (into c) (into d))) :
    ∃ r, Hid (Cx r (into a * into c - into b * into d) (into a * into d + into b * into c)) ∧ ∀ w : World, (binOp .mul 178 x y).run Tryz.prog w = .ok r w := by
  obtain ⟨r, h1, h2⟩ := cx_mul (P := Tryz.prog) 178 hx.out hy.out (into_abs a) (into_abs b) (into_abs c) (into_abs d)
  exact ⟨r, hid h1, h2⟩

theorem i64_mul1 (a b c d : Int) : I64 (into a * into c - into b * into d) := by
  have := abs_mul_le (into_abs a) (into_abs c); have := abs_mul_le (into_abs b) (into_abs d)
  constructor <;> omega

theorem i64_mul2 (a b c d : Int) : I64 (into a * into d + into b * into c) := by
  have := abs_mul_le (into_abs a) (into_abs d); have := abs_mul_le (into_abs b) (into_abs c)
  constructor <;> omega

set_option maxHeartbeats 2000000 in
theorem mul_any (v : Value) (l : List (Int × Int)) (w : World) (hv : SlV w w.heap.size v l) (hl : l.length ≤ 1000000000000) (hi : ∀ j, j < l.length → I64 (l.getD j (0, 0)).1 ∧ I64 (l.getD j (0, 0)).2) :
    Calls Tryz.prog 136 #[v] w fun e w' => e = .returned (val (prodV l).1 (prodV l).2) ∧ Below w.heap.size w w' := by
  have HI := hid hi; clear hi
  obtain ⟨A, c, rfl, hc, hA⟩ := hv
  have HA := hid hA; clear hA
  go_enter Tryz.func136, Tryz.ntmps136
  go_wp2_with fail
  refine (value_any _ 1 0 cx_one (⟨by decide, by decide⟩ : I64 1) (⟨by decide, by decide⟩ : I64 0) _).mono ?_
  rintro e w1 ⟨rfl, hb⟩
  rw [into_of 1 (by omega) (by omega), into_of 0 (by omega) (by omega)]
  have HB1 := hid hb; clear hb
  go_wp2_with fail
  have HG : Hid (w.heap.size < w1.heap.size) := hid (by have := HB1.out.size; simp at this; omega)
  generalize hg : w1.heap.size = g
  go_loopw [9] (fun i wr => ∃ k : Nat, k ≤ l.length ∧ i = .int .i64 k ∧ SumSt w g (prodV (l.take k)).1 (prodV (l.take k)).2 wr ∧ I64 (prodV (l.take k)).1 ∧ I64 (prodV (l.take k)).2) (fun i _ => l.length - (intOf i).toNat)
  case atStart => exact ⟨0, Nat.zero_le _, rfl, by rw [← hg]; exact SumSt.new2 1 0 _ HB1.out, (⟨by decide, by decide⟩ : I64 1), (⟨by decide, by decide⟩ : I64 0)⟩
  case round =>
    have HGG := hid hg; clear hg
    obtain ⟨k, hk, rfl, hst, hp, hq⟩ := hrel
    generalize hpe : (prodV (l.take k)).1 = p at hst hp
    generalize hqe : (prodV (l.take k)).2 = q at hst hq
    have HPE := hid hpe; have HQE := hid hqe; clear hpe hqe
    have HP := hid hp; have HQ := hid hq; clear hp hq
    have HS := hid hst
    have ⟨_, l3, _, r0, r1, s0, s1, f0, f1, f2, f3⟩ := hst
    clear hst
    by_cases hlt : k < l.length
    · obtain ⟨b, o, rfl, hbB, hcell⟩ := HA.out (by omega)
      obtain ⟨ca, cb⟩ := hcell k hlt
      obtain ⟨ha, hb⟩ := HI.out k hlt
      have HN := hid (prodV_snoc l k hlt)
      generalize hae : (l.getD k (0, 0)).1 = a at ca ha
      generalize hbe : (l.getD k (0, 0)).2 = b' at cb hb
      have HAE := hid hae; have HBE := hid hbe; clear hae hbe
      have HCA := hid ha; have HCB := hid hb; clear ha hb hcell
      have ca' := (HS.out.bel.cell (p := ⟨b, o + k * 2, none⟩) hbB).trans ca
      have cb' := (HS.out.bel.cell (p := ⟨b, o + k * 2 + 1, none⟩) hbB).trans cb
      clear ca cb
      go_wp2_with fail
      obtain ⟨W, hW, hst, ⟨k1, k2⟩, l0, h0⟩ := HS.out.box (.int .i64 a) (.int .i64 b') 31
      rw [hW]; clear hW
      have HT := hid hst
      have ⟨_, _, l1, _, _, q0, q1, _, _, g2, g3⟩ := hst
      clear hst
      go_region_law (first
        | (go_simp; go_at_call 113; (first | ((with_reducible refine (number_from (W := W) p q HP HQ _ ?_).mono ?_); assumption; rintro e w' ⟨v1, hv1, rfl, hb⟩; obtain ⟨hc, hf⟩ := bcell hb.out) | ((with_reducible refine (number_from (W := W) a b' HCA HCB _ ?_).mono ?_); assumption; rintro e w' ⟨v2, hv2, rfl, hb⟩; obtain ⟨hc, hf⟩ := bcell hb.out; obtain ⟨r, hr, hrun⟩ := cx_mul' hv1 hv2)))
        | (go_simp; go_at_call 133; refine (value_from (W := W) _ _ _ hr (i64_mul1 p q a b') (i64_mul2 p q a b') _ ?_).mono ?_; assumption; rintro e w' ⟨rfl, hb⟩; obtain ⟨hc, hf⟩ := bcell hb.out))
      all_goals
        go_wp2
        go_roundw
        case rel =>
          refine ⟨k + 1, by omega, by go_num, ?_⟩
          have e1 : (prodV (l.take (k + 1))).1 = into (into p * into a - into q * into b') := by rw [HN.out, mulV, HPE.out, HAE.out, HQE.out, HBE.out]
          have e2 : (prodV (l.take (k + 1))).2 = into (into p * into b' + into q * into a) := by rw [HN.out, mulV, HPE.out, HAE.out, HQE.out, HBE.out]
          rw [e1, e2]
          exact ⟨(HT.out.below hb.out).put _ _, into_i64 _, into_i64 _⟩
        case measure => simp [intOf]; omega
    · have HK : Hid (k = l.length) := hid (by omega)
      have HE : Hid (l.take k = l) := hid (List.take_of_length_le (by omega))
      go_wp2
      refine bodyPost_ret (v := val p q) (by simp [results, Tryz.results136, go_sem, r0, r1]) rfl ⟨by rw [← HPE.out, ← HQE.out, HE.out], ?_⟩
      exact (HS.out.bel.setCell (by simp only; omega) _).setCell (by simp only; omega) _

end Go.Proofs.YtfhlpbjdcdagjaaGreatDoor

namespace Go.Proofs.YtfhlpbjdcdagjaaGreatDoor
open Go.RowKit
set_option linter.unusedVariables false
set_option maxRecDepth 100000

def cmul (x y : Int × Int) : Int × Int := (x.1 * y.1 - x.2 * y.2, x.1 * y.2 + x.2 * y.1)

def cadd (x y : Int × Int) : Int × Int := (x.1 + y.1, x.2 + y.2)

def csub (x y : Int × Int) : Int × Int := (x.1 - y.1, x.2 - y.2)

def cconj (x : Int × Int) : Int × Int := (x.1, -x.2)

def norm (x : Int × Int) : Int × Int := (into x.1, into x.2)

theorem into_mul_mod (a b : Int) : (into a * into b) % 1048576 = (a * b) % 1048576 := by
  rw [Int.mul_emod, into_mod, into_mod, ← Int.mul_emod]

theorem mul_mod_l (a b : Int) : (into a * b) % 1048576 = (a * b) % 1048576 := by
  rw [Int.mul_emod, into_mod, ← Int.mul_emod]

theorem mul_mod_r (a b : Int) : (a * into b) % 1048576 = (a * b) % 1048576 := by
  rw [Int.mul_emod, into_mod, ← Int.mul_emod]

theorem addV_eq (x y : Int × Int) : addV x y = norm (cadd x y) := by
  have h1 := into_mod x.1; have h2 := into_mod x.2; have h3 := into_mod y.1; have h4 := into_mod y.2
  unfold addV norm cadd
  exact Prod.ext (into_eq (by show (into x.1 + into y.1) % _ = (x.1 + y.1) % _; omega)) (into_eq (by show (into x.2 + into y.2) % _ = (x.2 + y.2) % _; omega))

theorem mulV_eq (x y : Int × Int) : mulV x y = norm (cmul x y) := by
  have h1 := into_mul_mod x.1 y.1; have h2 := into_mul_mod x.2 y.2; have h3 := into_mul_mod x.1 y.2; have h4 := into_mul_mod x.2 y.1
  unfold mulV norm cmul
  exact Prod.ext (into_eq (by show (into x.1 * into y.1 - into x.2 * into y.2) % _ = (x.1 * y.1 - x.2 * y.2) % _; omega)) (into_eq (by show (into x.1 * into y.2 + into x.2 * into y.1) % _ = (x.1 * y.2 + x.2 * y.1) % _; omega))

theorem norm_mul_l (x y : Int × Int) : norm (cmul (norm x) y) = norm (cmul x y) := by
  have h1 := mul_mod_l x.1 y.1; have h2 := mul_mod_l x.2 y.2; have h3 := mul_mod_l x.1 y.2; have h4 := mul_mod_l x.2 y.1
  unfold norm cmul
  exact Prod.ext (into_eq (by show (into x.1 * y.1 - into x.2 * y.2) % _ = (x.1 * y.1 - x.2 * y.2) % _; omega)) (into_eq (by show (into x.1 * y.2 + into x.2 * y.1) % _ = (x.1 * y.2 + x.2 * y.1) % _; omega))

theorem norm_mul_r (x y : Int × Int) : norm (cmul x (norm y)) = norm (cmul x y) := by
  have h1 := mul_mod_r x.1 y.1; have h2 := mul_mod_r x.2 y.2; have h3 := mul_mod_r x.1 y.2; have h4 := mul_mod_r x.2 y.1
  unfold norm cmul
  exact Prod.ext (into_eq (by show (x.1 * into y.1 - x.2 * into y.2) % _ = (x.1 * y.1 - x.2 * y.2) % _; omega)) (into_eq (by show (x.1 * into y.2 + x.2 * into y.1) % _ = (x.1 * y.2 + x.2 * y.1) % _; omega))

theorem norm_add_l (x y : Int × Int) : norm (cadd (norm x) y) = norm (cadd x y) := by
  have h1 := into_mod x.1; have h2 := into_mod x.2
  unfold norm cadd
  exact Prod.ext (into_eq (by show (into x.1 + y.1) % _ = (x.1 + y.1) % _; omega)) (into_eq (by show (into x.2 + y.2) % _ = (x.2 + y.2) % _; omega))

theorem norm_add_r (x y : Int × Int) : norm (cadd x (norm y)) = norm (cadd x y) := by
  have h1 := into_mod y.1; have h2 := into_mod y.2
  unfold norm cadd
  exact Prod.ext (into_eq (by show (x.1 + into y.1) % _ = (x.1 + y.1) % _; omega)) (into_eq (by show (x.2 + into y.2) % _ = (x.2 + y.2) % _; omega))

theorem one_cmul (x : Int × Int) : cmul (1, 0) x = x := by
  unfold cmul; exact Prod.ext (by simp) (by simp)

theorem zero_cadd (x : Int × Int) : cadd (0, 0) x = x := by
  unfold cadd; exact Prod.ext (by simp) (by simp)

theorem cmul_comm (x y : Int × Int) : cmul x y = cmul y x := by
  unfold cmul; exact Prod.ext (by grind) (by grind)

theorem cmul_assoc (x y z : Int × Int) : cmul (cmul x y) z = cmul x (cmul y z) := by
  unfold cmul; exact Prod.ext (by grind) (by grind)

theorem cmul_cadd (x y z : Int × Int) : cmul x (cadd y z) = cadd (cmul x y) (cmul x z) := by
  unfold cmul cadd; exact Prod.ext (by grind) (by grind)

theorem prod2 (x y : Int × Int) : prodV [x, y] = norm (cmul x y) := by
  show mulV (mulV (1, 0) x) y = _
  rw [mulV_eq, mulV_eq, one_cmul, norm_mul_l]

theorem prod3 (x y z : Int × Int) : prodV [x, y, z] = norm (cmul (cmul x y) z) := by
  show mulV (mulV (mulV (1, 0) x) y) z = _
  rw [mulV_eq, mulV_eq, mulV_eq, one_cmul, norm_mul_l x, norm_mul_l]

theorem sum2 (x y : Int × Int) : sumV [x, y] = norm (cadd x y) := by
  show addV (addV (0, 0) x) y = _
  rw [addV_eq, addV_eq, zero_cadd, norm_add_l]

theorem sub_eq (x y : Int × Int) : (into (into x.1 - into y.1), into (into x.2 - into y.2)) = norm (csub x y) := by
  have h1 := into_mod x.1; have h2 := into_mod x.2; have h3 := into_mod y.1; have h4 := into_mod y.2
  unfold norm csub
  exact Prod.ext (into_eq (by show (into x.1 - into y.1) % _ = (x.1 - y.1) % _; omega)) (into_eq (by show (into x.2 - into y.2) % _ = (x.2 - y.2) % _; omega))

theorem sub_add (x y : Int × Int) : cadd (csub x y) y = x := by
  unfold cadd csub; exact Prod.ext (by show x.1 - y.1 + y.1 = x.1; omega) (by show x.2 - y.2 + y.2 = x.2; omega)

theorem neg_neg_into (n : Int) : into (-into (-into n)) = into n := by
  have h1 := into_mod n; have h2 := into_mod (-into n)
  exact into_eq (by omega)

theorem dist2 (x y z : Int × Int) : prodV [x, sumV [y, z]] = sumV [prodV [x, y], prodV [x, z]] := by
  rw [prod2, sum2, sum2, prod2, prod2, norm_mul_r, norm_add_l, norm_add_r, cmul_cadd]

theorem turn3 (x y z : Int × Int) : prodV [x, y, z] = prodV [z, y, x] := by
  rw [prod3, prod3, cmul_comm (cmul x y) z, cmul_comm x y, cmul_assoc]

theorem turn2 (x y : Int × Int) : prodV [x, y] = prodV [y, x] := by
  rw [prod2, prod2, cmul_comm]

theorem back2 (x y : Int × Int) : sumV [(into (into x.1 - into y.1), into (into x.2 - into y.2)), y] = norm x := by
  rw [sum2, sub_eq, norm_add_l, sub_add]

theorem conj_real (x : Int × Int) : (prodV [x, (into x.1, into (-into x.2))]).2 = 0 := by
  have e : ((into x.1, into (-into x.2)) : Int × Int) = norm (cconj x) := by
    have h2 := into_mod x.2
    unfold norm cconj
    exact Prod.ext rfl (into_eq (by show (-into x.2) % _ = (-x.2) % _; omega))
  rw [prod2, e, norm_mul_r]
  show into (x.1 * -x.2 + x.2 * x.1) = 0
  rw [show x.1 * -x.2 + x.2 * x.1 = 0 by grind, into_of 0 (by omega) (by omega)]

theorem prod_right (x y : Int × Int) : into (prodV [x, y]).1 = (prodV [x, y]).1 ∧ into (prodV [x, y]).2 = (prodV [x, y]).2 := by
  rw [prod2]; exact ⟨into_into _, into_into _⟩

theorem prod2_i64 (x y : Int × Int) : I64 (prodV [x, y]).1 ∧ I64 (prodV [x, y]).2 := by rw [prod2]; exact ⟨into_i64 _, into_i64 _⟩

theorem sum2_i64 (x y : Int × Int) : I64 (sumV [x, y]).1 ∧ I64 (sumV [x, y]).2 := by rw [sum2]; exact ⟨into_i64 _, into_i64 _⟩

/-- A new slice of two values, of three. -/
theorem SlV.two (w : World) (a b c d : Int) (t : TypeId) :
    SlV (w.alloc (.cells #[.int .i64 a, .int .i64 b, .int .i64 c, .int .i64 d] t)) (w.alloc (.cells #[.int .i64 a, .int .i64 b, .int .i64 c, .int .i64 d] t)).heap.size (.slice (some ⟨w.heap.size, 0, none⟩) 2 2) [(a, b), (c, d)] := by
  refine ⟨_, _, rfl, Nat.le_refl _, fun _ => ⟨_, 0, rfl, by simp, fun j hj => ?_⟩⟩
  match j, hj with
  | 0, _ => exact ⟨by simp [World.cell?_alloc_new], by simp [World.cell?_alloc_new]⟩
  | 1, _ => exact ⟨by simp [World.cell?_alloc_new], by simp [World.cell?_alloc_new]⟩

theorem SlV.three (w : World) (a b c d e f : Int) (t : TypeId) :
    SlV (w.alloc (.cells #[.int .i64 a, .int .i64 b, .int .i64 c, .int .i64 d, .int .i64 e, .int .i64 f] t)) (w.alloc (.cells #[.int .i64 a, .int .i64 b, .int .i64 c, .int .i64 d, .int .i64 e, .int .i64 f] t)).heap.size (.slice (some ⟨w.heap.size, 0, none⟩) 3 3) [(a, b), (c, d), (e, f)] := by
  refine ⟨_, _, rfl, Nat.le_refl _, fun _ => ⟨_, 0, rfl, by simp, fun j hj => ?_⟩⟩
  match j, hj with
  | 0, _ => exact ⟨by simp [World.cell?_alloc_new], by simp [World.cell?_alloc_new]⟩
  | 1, _ => exact ⟨by simp [World.cell?_alloc_new], by simp [World.cell?_alloc_new]⟩
  | 2, _ => exact ⟨by simp [World.cell?_alloc_new], by simp [World.cell?_alloc_new]⟩

theorem i64_two {a b c d : Int} (h1 : I64 a ∧ I64 b) (h2 : I64 c ∧ I64 d) : ∀ j, j < [(a, b), (c, d)].length → I64 ([(a, b), (c, d)].getD j (0, 0)).1 ∧ I64 ([(a, b), (c, d)].getD j (0, 0)).2 := by
  intro j hj
  match j, hj with
  | 0, _ => exact h1
  | 1, _ => exact h2

theorem i64_three {a b c d e f : Int} (h1 : I64 a ∧ I64 b) (h2 : I64 c ∧ I64 d) (h3 : I64 e ∧ I64 f) : ∀ j, j < [(a, b), (c, d), (e, f)].length → I64 ([(a, b), (c, d), (e, f)].getD j (0, 0)).1 ∧ I64 ([(a, b), (c, d), (e, f)].getD j (0, 0)).2 := by
  intro j hj
  match j, hj with
  | 0, _ => exact h1
  | 1, _ => exact h2
  | 2, _ => exact h3

theorem from_new {W w w' : World} {o : Obj} (hb : Hid (Below W.heap.size W w)) (h : Below (w.alloc o).heap.size (w.alloc o) w') : Hid (Below W.heap.size W w') :=
  hid ((hb.out.alloc hb.out.size o).trans (h.mono (by have := hb.out.size; simp; omega)))

/-- What a function of values answers, told from a world W that lies ahead. -/
def Gives (p q : Int) (W : World) (e : Ending) (w' : World) : Prop := e = .returned (val p q) ∧ Hid (Below W.heap.size W w')

theorem mul_2 {W : World} (a b c d p q : Int) (t : TypeId) (h : Hid (prodV [(a, b), (c, d)] = (p, q))) (h1 : Hid (I64 a ∧ I64 b)) (h2 : Hid (I64 c ∧ I64 d)) (w : World) (hb : Hid (Below W.heap.size W w)) :
    Calls Tryz.prog 136 #[.slice (some ⟨w.heap.size, 0, none⟩) 2 2] (w.alloc (.cells #[.int .i64 a, .int .i64 b, .int .i64 c, .int .i64 d] t)) (Gives p q W) :=
  (mul_any _ [(a, b), (c, d)] _ (SlV.two w a b c d t) (by simp) (i64_two h1.out h2.out)).mono fun e w' ⟨he, hw⟩ => ⟨by rw [he, h.out], from_new hb hw⟩

theorem mul_3 {W : World} (a b c d k l p q : Int) (t : TypeId) (h : Hid (prodV [(a, b), (c, d), (k, l)] = (p, q))) (h1 : Hid (I64 a ∧ I64 b)) (h2 : Hid (I64 c ∧ I64 d)) (h3 : Hid (I64 k ∧ I64 l)) (w : World) (hb : Hid (Below W.heap.size W w)) :
    Calls Tryz.prog 136 #[.slice (some ⟨w.heap.size, 0, none⟩) 3 3] (w.alloc (.cells #[.int .i64 a, .int .i64 b, .int .i64 c, .int .i64 d, .int .i64 k, .int .i64 l] t)) (Gives p q W) :=
  (mul_any _ [(a, b), (c, d), (k, l)] _ (SlV.three w a b c d k l t) (by simp) (i64_three h1.out h2.out h3.out)).mono fun e w' ⟨he, hw⟩ => ⟨by rw [he, h.out], from_new hb hw⟩

theorem add_2 {W : World} (a b c d p q : Int) (t : TypeId) (h : Hid (sumV [(a, b), (c, d)] = (p, q))) (h1 : Hid (I64 a ∧ I64 b)) (h2 : Hid (I64 c ∧ I64 d)) (w : World) (hb : Hid (Below W.heap.size W w)) :
    Calls Tryz.prog 134 #[.slice (some ⟨w.heap.size, 0, none⟩) 2 2] (w.alloc (.cells #[.int .i64 a, .int .i64 b, .int .i64 c, .int .i64 d] t)) (Gives p q W) :=
  (add_any _ [(a, b), (c, d)] _ (SlV.two w a b c d t) (by simp) (i64_two h1.out h2.out)).mono fun e w' ⟨he, hw⟩ => ⟨by rw [he, h.out], from_new hb hw⟩

theorem of_from {W : World} (a b p q : Int) (h1 : Hid (I64 a ∧ I64 b)) (hp : Hid (into a = p)) (hq : Hid (into b = q)) (w : World) (hb : Hid (Below W.heap.size W w)) :
    Calls Tryz.prog 46 #[.int .i64 a, .int .i64 b] w (Gives p q W) :=
  (of_any a b h1.out.1 h1.out.2 w).mono fun e w' ⟨he, hw⟩ => ⟨by rw [he, hp.out, hq.out], hid (hb.out.trans (hw.mono hb.out.size))⟩

theorem turn_from {W : World} (a b p q : Int) (h1 : Hid (I64 a ∧ I64 b)) (hp : Hid (into (-into b) = p)) (hq : Hid (into a = q)) (w : World) (hb : Hid (Below W.heap.size W w)) :
    Calls Tryz.prog 116 #[val a b] w (Gives p q W) :=
  (turn_any a b h1.out.1 h1.out.2 w).mono fun e w' ⟨he, hw⟩ => ⟨by rw [he, hp.out, hq.out], hid (hb.out.trans (hw.mono hb.out.size))⟩

theorem conj_from {W : World} (a b p q : Int) (h1 : Hid (I64 a ∧ I64 b)) (hp : Hid (into a = p)) (hq : Hid (into (-into b) = q)) (w : World) (hb : Hid (Below W.heap.size W w)) :
    Calls Tryz.prog 115 #[val a b] w (Gives p q W) :=
  (conj_any a b h1.out.1 h1.out.2 w).mono fun e w' ⟨he, hw⟩ => ⟨by rw [he, hp.out, hq.out], hid (hb.out.trans (hw.mono hb.out.size))⟩

theorem sub_from {W : World} (a b c d p q : Int) (h1 : Hid (I64 a ∧ I64 b)) (h2 : Hid (I64 c ∧ I64 d)) (hp : Hid (into (into a - into c) = p)) (hq : Hid (into (into b - into d) = q)) (w : World) (hb : Hid (Below W.heap.size W w)) :
    Calls Tryz.prog 135 #[val a b, val c d] w (Gives p q W) :=
  (sub_any a b c d h1.out.1 h1.out.2 h2.out.1 h2.out.2 w).mono fun e w' ⟨he, hw⟩ => ⟨by rw [he, hp.out, hq.out], hid (hb.out.trans (hw.mono hb.out.size))⟩

/-- What a function that tells answers. -/
def Tells (p : Bool) (W : World) (e : Ending) (w' : World) : Prop := e = .returned (.bool p) ∧ Hid (Below W.heap.size W w')

theorem right_from {W : World} (a b : Int) (p : Bool) (h1 : Hid (I64 a ∧ I64 b)) (hp : Hid ((decide (a = into a) && decide (b = into b)) = p)) (w : World) (hb : Hid (Below W.heap.size W w)) :
    Calls Tryz.prog 27 #[val a b] w (Tells p W) :=
  (right_any a b h1.out.1 h1.out.2 w).mono fun e w' ⟨he, hw⟩ => ⟨by rw [he, hp.out], hid (hb.out.trans (hw.mono hb.out.size))⟩

/-- A box of two cells. -/
theorem eql_same (p q : Int) (w : World) : (binOp .eql 31 (val p q) (val p q)).run Tryz.prog w = .ok (.bool true) w := by
  rw [eql_val]; simp

end Go.Proofs.YtfhlpbjdcdagjaaGreatDoor
