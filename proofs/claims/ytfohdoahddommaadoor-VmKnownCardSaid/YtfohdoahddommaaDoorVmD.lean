/- Layer 6, vm: do, operation by operation. -/
import Derived.Test.YtfohdoahddommaaDoorVmC
namespace Go.Proofs.YtfohdoahddommaaDoor
open Go.RowKit Go.Lib
set_option linter.unusedVariables false
set_option maxRecDepth 100000

section
variable {w : World} {B b : Nat} {vp : Value} {st out : List (Int × Int)} {c0 c1 : Int × Int} {n : Nat} {fx : List Nat}

/-- What do makes. -/
def DoIs (w : World) (B b : Nat) (vp : Value) (fx : List Nat) (s : VmS) (o a v1 v2 : Int) : Prop :=
  Calls Tryd.prog 37 #[.pointer (some ⟨b, 0, none⟩), val o a, val v1 v2] w fun e w' => e = .returned (.tuple #[]) ∧ MP B b vp s fx w w'

set_option maxHeartbeats 600000 in
theorem do_push (h : Mch2 w B b vp ⟨st, out, c0, c1, n⟩ fx) (h8 : st.length ≤ 800) (a v1 v2 : Int) (ha : Hid (-524288 ≤ a ∧ a ≤ 524287)) : DoIs w B b vp fx ⟨st ++ [(a, 0)], out, c0, c1, n⟩ 1 a v1 v2 := by
  unfold DoIs
  have HI : Hid (I64 a) := hid ⟨by have := ha.out; omega, by have := ha.out; omega⟩
  obtain ⟨W, hW, HM, _, HE⟩ := box_do h 1 a v1 v2 37 24
  go_enter Tryd.func37, Tryd.ntmps37
  go_wp2_with fail
  clear hW
  refine (of_any a 0 HI.out ⟨by decide, by decide⟩ W).mono ?_
  rintro e w1 ⟨rfl, hb⟩
  rw [into_of a ha.out.1 ha.out.2, into_of 0 (by omega) (by omega)]
  have HM1 := hid (HM.out.below hb)
  clear hb
  go_wp2_with fail
  refine (lay_one a 0 (hid HM1.out.m) (by simp; omega)).mono ?_
  rintro e w2 ⟨rfl, hm⟩
  have HM2 := hid (HM1.out.trans hm)
  clear hm
  go_wp2_with fail
  go_end0
  exact ⟨rfl, HE.out _ _ HM2.out⟩

set_option maxHeartbeats 600000 in
theorem do_pushi (h : Mch2 w B b vp ⟨st, out, c0, c1, n⟩ fx) (h8 : st.length ≤ 800) (a v1 v2 : Int) (ha : Hid (-524288 ≤ a ∧ a ≤ 524287)) : DoIs w B b vp fx ⟨st ++ [(0, a)], out, c0, c1, n⟩ 2 a v1 v2 := by
  unfold DoIs
  have HI : Hid (I64 a) := hid ⟨by have := ha.out; omega, by have := ha.out; omega⟩
  obtain ⟨W, hW, HM, _, HE⟩ := box_do h 2 a v1 v2 37 24
  go_enter Tryd.func37, Tryd.ntmps37
  go_wp2_with fail
  clear hW
  refine (of_any 0 a ⟨by decide, by decide⟩ HI.out W).mono ?_
  rintro e w1 ⟨rfl, hb⟩
  rw [into_of a ha.out.1 ha.out.2, into_of 0 (by omega) (by omega)]
  have HM1 := hid (HM.out.below hb)
  clear hb
  go_wp2_with fail
  refine (lay_one 0 a (hid HM1.out.m) (by simp; omega)).mono ?_
  rintro e w2 ⟨rfl, hm⟩
  have HM2 := hid (HM1.out.trans hm)
  clear hm
  go_wp2_with fail
  go_end0
  exact ⟨rfl, HE.out _ _ HM2.out⟩

set_option maxHeartbeats 600000 in
theorem do_in (h : Mch2 w B b vp ⟨st, out, c0, c1, n⟩ fx) (h8 : st.length ≤ 800) (a v1 v2 : Int) : DoIs w B b vp fx ⟨st ++ [(v1, v2)], out, c0, c1, n⟩ 3 a v1 v2 := by
  unfold DoIs
  obtain ⟨W, hW, HM, _, HE⟩ := box_do h 3 a v1 v2 37 24
  go_enter Tryd.func37, Tryd.ntmps37
  go_wp2_with fail
  clear hW
  refine (lay_one v1 v2 HM (by simp; omega)).mono ?_
  rintro e w2 ⟨rfl, hm⟩
  have HM2 := hid hm
  clear hm
  go_wp2_with fail
  go_end0
  exact ⟨rfl, HE.out _ _ HM2.out⟩

/-- The top, as letters. -/
theorem take_xy {w : World} (h : Mch2 w B b vp ⟨st, out, c0, c1, n⟩ fx) (h0 : 0 < st.length) (h8 : st.length ≤ 800) {x y : Int} (hx : Hid (topV st 1 = (x, y))) :
    Calls Tryd.prog 36 #[.pointer (some ⟨b, 0, none⟩)] w fun e w' => e = .returned (val x y) ∧ MP B b vp ⟨cutV st 1, out, c0, c1, n⟩ fx w w' :=
  (take_mp h h0 (by simp only; omega)).mono fun e w' ⟨he, hm⟩ => ⟨by rw [he]; simp only; rw [hx.out], hm⟩

set_option maxHeartbeats 600000 in
theorem do_conj (h : Mch2 w B b vp ⟨st, out, c0, c1, n⟩ fx) (h0 : 0 < st.length) (h8 : st.length ≤ 800) (a v1 v2 : Int) (hr : Rgt (topV st 1)) : DoIs w B b vp fx ⟨cutV st 1 ++ [conjV (topV st 1)], out, c0, c1, n⟩ 9 a v1 v2 := by
  unfold DoIs
  obtain ⟨x, y, hxy⟩ := pair_of (p := topV st 1)
  have HX := hid hxy
  have HI := hid hr.i64
  rw [hxy] at HI
  have HC : Hid ((cutV st 1).length ≤ 800) := hid (by unfold cutV; rw [List.length_take]; omega)
  clear hxy hr
  obtain ⟨W, hW, HM, _, HE⟩ := box_do h 9 a v1 v2 37 24
  go_enter Tryd.func37, Tryd.ntmps37
  go_wp2_with fail
  clear hW
  refine (take_xy HM.out h0 h8 HX).mono ?_
  rintro e w1 ⟨rfl, hm⟩
  have HM1 := hid hm
  clear hm
  go_wp2_with fail
  refine (conj_any x y HI.out.1 HI.out.2 w1).mono ?_
  rintro e w2 ⟨rfl, hb⟩
  have HM2 := hid (HM1.out.trans (HM1.out.m.below hb))
  clear hb
  obtain ⟨p, q, hpq⟩ : ∃ p q, conjV (x, y) = (p, q) := ⟨_, _, rfl⟩
  have HP := hid hpq
  have e1 : into x = p := congrArg Prod.fst hpq
  have e2 : into (-into y) = q := congrArg Prod.snd hpq
  rw [e1, e2]
  clear e1 e2 hpq
  go_wp2_with fail
  refine (lay_one p q (hid HM2.out.m) (by have := HC.out; simp only; omega)).mono ?_
  rintro e w3 ⟨rfl, hm⟩
  have HM3 := hid (HM2.out.trans hm)
  clear hm
  go_wp2_with fail
  go_end0
  refine ⟨rfl, HE.out _ _ ?_⟩
  rw [HX.out, HP.out]
  exact HM3.out

set_option maxHeartbeats 600000 in
theorem do_turn (h : Mch2 w B b vp ⟨st, out, c0, c1, n⟩ fx) (h0 : 0 < st.length) (h8 : st.length ≤ 800) (a v1 v2 : Int) (hr : Rgt (topV st 1)) : DoIs w B b vp fx ⟨cutV st 1 ++ [turnV (topV st 1)], out, c0, c1, n⟩ 10 a v1 v2 := by
  unfold DoIs
  obtain ⟨x, y, hxy⟩ := pair_of (p := topV st 1)
  have HX := hid hxy
  have HI := hid hr.i64
  rw [hxy] at HI
  have HC : Hid ((cutV st 1).length ≤ 800) := hid (by unfold cutV; rw [List.length_take]; omega)
  clear hxy hr
  obtain ⟨W, hW, HM, _, HE⟩ := box_do h 10 a v1 v2 37 24
  go_enter Tryd.func37, Tryd.ntmps37
  go_wp2_with fail
  clear hW
  refine (take_xy HM.out h0 h8 HX).mono ?_
  rintro e w1 ⟨rfl, hm⟩
  have HM1 := hid hm
  clear hm
  go_wp2_with fail
  refine (turn_any x y HI.out.1 HI.out.2 w1).mono ?_
  rintro e w2 ⟨rfl, hb⟩
  have HM2 := hid (HM1.out.trans (HM1.out.m.below hb))
  clear hb
  obtain ⟨p, q, hpq⟩ : ∃ p q, turnV (x, y) = (p, q) := ⟨_, _, rfl⟩
  have HP := hid hpq
  have e1 : into (-into y) = p := congrArg Prod.fst hpq
  have e2 : into x = q := congrArg Prod.snd hpq
  rw [e1, e2]
  clear e1 e2 hpq
  go_wp2_with fail
  refine (lay_one p q (hid HM2.out.m) (by have := HC.out; simp only; omega)).mono ?_
  rintro e w3 ⟨rfl, hm⟩
  have HM3 := hid (HM2.out.trans hm)
  clear hm
  go_wp2_with fail
  go_end0
  refine ⟨rfl, HE.out _ _ ?_⟩
  rw [HX.out, HP.out]
  exact HM3.out

set_option maxHeartbeats 600000 in
theorem do_drop (h : Mch2 w B b vp ⟨st, out, c0, c1, n⟩ fx) (h0 : 0 < st.length) (h8 : st.length ≤ 800) (a v1 v2 : Int) : DoIs w B b vp fx ⟨cutV st 1, out, c0, c1, n⟩ 13 a v1 v2 := by
  unfold DoIs
  obtain ⟨x, y, hxy⟩ := pair_of (p := topV st 1)
  have HX := hid hxy
  clear hxy
  obtain ⟨W, hW, HM, _, HE⟩ := box_do h 13 a v1 v2 37 24
  go_enter Tryd.func37, Tryd.ntmps37
  go_wp2_with fail
  clear hW
  refine (take_xy HM.out h0 h8 HX).mono ?_
  rintro e w1 ⟨rfl, hm⟩
  have HM1 := hid hm
  clear hm
  go_wp2_with fail
  go_end0
  exact ⟨rfl, HE.out _ _ HM1.out⟩

set_option maxHeartbeats 600000 in
theorem do_two (o : Int) (ho : o = 6 ∨ o = 7 ∨ o = 8 ∨ o = 17) (h : Mch2 w B b vp ⟨st, out, c0, c1, n⟩ fx) (h0 : 2 ≤ st.length) (h8 : st.length ≤ 800) (a v1 v2 : Int) (hr : Rgt (topV st 1)) (hr2 : Rgt (topV st 2)) :
    DoIs w B b vp fx ⟨cutV st 2 ++ [twoV o (topV st 2) (topV st 1)], out, c0, c1, n⟩ o a v1 v2 := by
  unfold DoIs
  obtain ⟨x, y, hxy⟩ := pair_of (p := topV st 1)
  obtain ⟨x', y', hxy'⟩ := pair_of (p := topV st 2)
  have HX := hid hxy
  have HI := hid hr.i64
  have HI2 := hid hr2.i64
  rw [hxy] at HI
  rw [hxy'] at HI2
  obtain ⟨t1, t2⟩ := top_cut st h0
  have HX2 : Hid (topV (cutV st 1) 1 = (x', y')) := hid (t1.trans hxy')
  have HX2' := hid hxy'
  have HT2 := hid t2
  have hcl : (cutV st 1).length = st.length - 1 := by unfold cutV; rw [List.length_take]; omega
  have HC0 : Hid (0 < (cutV st 1).length) := hid (by omega)
  have HC : Hid ((cutV st 1).length ≤ 800) := hid (by omega)
  have HC2 : Hid ((cutV st 2).length ≤ 800) := hid (by unfold cutV; rw [List.length_take]; omega)
  obtain ⟨p, q, hpq⟩ := pair_of (p := twoV o (x', y') (x, y))
  have HP := hid hpq
  clear hxy hxy' t1 t2 hcl hpq hr hr2
  obtain ⟨W, hW, HM, ⟨k0, k1, k2, k3⟩, HE⟩ := box_do h o a v1 v2 37 24
  have e1 : (o == 1) = false := by rcases ho with rfl | rfl | rfl | rfl <;> rfl
  have e2 : (o == 2) = false := by rcases ho with rfl | rfl | rfl | rfl <;> rfl
  have e3 : (o == 3) = false := by rcases ho with rfl | rfl | rfl | rfl <;> rfl
  have e4 : (o == 4) = false := by rcases ho with rfl | rfl | rfl | rfl <;> rfl
  have e5 : (o == 5) = false := by rcases ho with rfl | rfl | rfl | rfl <;> rfl
  have e9 : (o == 9) = false := by rcases ho with rfl | rfl | rfl | rfl <;> rfl
  have e10 : (o == 10) = false := by rcases ho with rfl | rfl | rfl | rfl <;> rfl
  have e13 : (o == 13) = false := by rcases ho with rfl | rfl | rfl | rfl <;> rfl
  have e14 : (o == 14) = false := by rcases ho with rfl | rfl | rfl | rfl <;> rfl
  have e11 : (o == 11) = false := by rcases ho with rfl | rfl | rfl | rfl <;> rfl
  have e12 : (o == 12) = false := by rcases ho with rfl | rfl | rfl | rfl <;> rfl
  have HO := hid ho
  clear ho
  go_enter Tryd.func37, Tryd.ntmps37
  go_wp2_with fail
  clear hW
  have HK := hid k0
  clear k0 k1 k2 k3
  refine (take_xy HM.out (by omega) h8 HX).mono ?_
  rintro e w1 ⟨rfl, hm⟩
  have HM1 := hid hm
  clear hm
  go_wp2_with fail
  refine (take_xy HM1.out.m HC0.out HC.out HX2).mono ?_
  rintro e w2 ⟨rfl, hm⟩
  have a1 := hm.m.alloc (.cells #[.int .i64 x, .int .i64 y] 24)
  have a2 := a1.m.alloc (.cells #[.int .i64 x', .int .i64 y'] 24)
  have a3 := HM1.out.trans hm
  have a4 := a3.trans a1
  have HM2 := hid (a4.trans a2)
  clear a1 a2 a4
  have k0 : w2.cell? ⟨w.heap.size, 0, none⟩ = some (.int .i64 o) := (a3.cell (by simp)).trans HK.out
  have hlt := World.block_lt_of_cell? w2 _ k0
  clear hm
  rw [HT2.out] at HM2
  go_wp2_with fail
  refine (oftwo_any o x' y' x y HO.out HI2.out HI.out _).mono ?_
  rw [HP.out]
  rintro e w3 ⟨rfl, hb⟩
  have HM3 := hid (HM2.out.trans (HM2.out.m.below hb))
  clear hb
  go_wp2_with fail
  refine (lay_one p q (hid HM3.out.m) (by have := HC2.out; simp only; omega)).mono ?_
  rintro e w4 ⟨rfl, hm⟩
  have HM4 := hid (HM3.out.trans hm)
  clear hm
  go_wp2_with fail
  go_end0
  refine ⟨rfl, HE.out _ _ ?_⟩
  rw [HX.out, HX2'.out, HP.out]
  exact HM4.out

end

end Go.Proofs.YtfohdoahddommaaDoor
