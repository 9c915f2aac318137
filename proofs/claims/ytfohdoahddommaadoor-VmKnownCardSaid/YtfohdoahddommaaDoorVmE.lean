/- Layer 6, vm: do, where two are laid. -/
import Derived.Test.YtfohdoahddommaaDoorVmD
namespace Go.Proofs.YtfohdoahddommaaDoor
open Go.RowKit Go.Lib
set_option linter.unusedVariables false
set_option maxRecDepth 100000

section
variable {w : World} {B b : Nat} {vp : Value} {st out : List (Int × Int)} {c0 c1 : Int × Int} {n : Nat} {fx : List Nat}

set_option maxHeartbeats 600000 in
theorem do_dup (h : Mch2 w B b vp ⟨st, out, c0, c1, n⟩ fx) (h0 : 0 < st.length) (h8 : st.length ≤ 800) (a v1 v2 : Int) : DoIs w B b vp fx ⟨cutV st 1 ++ [topV st 1, topV st 1], out, c0, c1, n⟩ 11 a v1 v2 := by
  unfold DoIs
  obtain ⟨x, y, hxy⟩ := pair_of (p := topV st 1)
  have HX := hid hxy
  have HC : Hid ((cutV st 1).length ≤ 800) := hid (by unfold cutV; rw [List.length_take]; omega)
  clear hxy
  obtain ⟨W, hW, HM, _, HE⟩ := box_do h 11 a v1 v2 37 24
  go_enter Tryd.func37, Tryd.ntmps37
  go_wp2_with fail
  clear hW
  refine (take_xy HM.out h0 h8 HX).mono ?_
  rintro e w1 ⟨rfl, hm⟩
  have HM1 := hid (hm.trans (hm.m.alloc (.cells #[.int .i64 x, .int .i64 y] 24)))
  clear hm
  go_wp2_with fail
  refine (lay_two (w := w1.alloc (.cells #[.int .i64 x, .int .i64 y] 24)) x y x y (hid HM1.out.m) (by have := HC.out; simp only; omega) (by rw [World.size_alloc])).mono ?_
  rintro e w2 ⟨rfl, hm⟩
  have HM2 := hid (HM1.out.trans hm)
  clear hm
  go_wp2_with fail
  go_end0
  refine ⟨rfl, HE.out _ _ ?_⟩
  rw [HX.out]
  exact HM2.out

set_option maxHeartbeats 600000 in
theorem do_swap (h : Mch2 w B b vp ⟨st, out, c0, c1, n⟩ fx) (h0 : 2 ≤ st.length) (h8 : st.length ≤ 800) (a v1 v2 : Int) : DoIs w B b vp fx ⟨cutV st 2 ++ [topV st 1, topV st 2], out, c0, c1, n⟩ 12 a v1 v2 := by
  unfold DoIs
  obtain ⟨x, y, hxy⟩ := pair_of (p := topV st 1)
  obtain ⟨x', y', hxy'⟩ := pair_of (p := topV st 2)
  have HX := hid hxy
  obtain ⟨t1, t2⟩ := top_cut st h0
  have HX2 : Hid (topV (cutV st 1) 1 = (x', y')) := hid (t1.trans hxy')
  have HX2' := hid hxy'
  have HT2 := hid t2
  have hcl : (cutV st 1).length = st.length - 1 := by unfold cutV; rw [List.length_take]; omega
  have HC0 : Hid (0 < (cutV st 1).length) := hid (by omega)
  have HC : Hid ((cutV st 1).length ≤ 800) := hid (by omega)
  have HC2 : Hid ((cutV st 2).length ≤ 800) := hid (by unfold cutV; rw [List.length_take]; omega)
  clear hxy hxy' t1 t2 hcl
  obtain ⟨W, hW, HM, _, HE⟩ := box_do h 12 a v1 v2 37 24
  go_enter Tryd.func37, Tryd.ntmps37
  go_wp2_with fail
  clear hW
  refine (take_xy HM.out (by omega) h8 HX).mono ?_
  rintro e w1 ⟨rfl, hm⟩
  have HM1 := hid hm
  clear hm
  go_wp2_with fail
  refine (take_xy HM1.out.m HC0.out HC.out HX2).mono ?_
  rintro e w2 ⟨rfl, hm⟩
  have a1 := hm.m.alloc (.cells #[.int .i64 x, .int .i64 y] 24)
  have a2 := a1.m.alloc (.cells #[.int .i64 x', .int .i64 y'] 24)
  have a3 := HM1.out.trans hm
  have a4 := a3.trans a1
  have HM2 := hid (a4.trans a2)
  clear a1 a2 a4
  clear hm
  rw [HT2.out] at HM2
  go_wp2_with fail
  refine (lay_two (w := (w2.alloc (.cells #[.int .i64 x, .int .i64 y] 24)).alloc (.cells #[.int .i64 x', .int .i64 y'] 24)) x y x' y' (hid HM2.out.m) (by have := HC2.out; simp only; omega) (by rw [World.size_alloc, World.size_alloc])).mono ?_
  rintro e w3 ⟨rfl, hm⟩
  have HM3 := hid (HM2.out.trans hm)
  clear hm
  go_wp2_with fail
  go_end0
  refine ⟨rfl, HE.out _ _ ?_⟩
  rw [HX.out, HX2'.out]
  exact HM3.out

end

end Go.Proofs.YtfohdoahddommaaDoor
