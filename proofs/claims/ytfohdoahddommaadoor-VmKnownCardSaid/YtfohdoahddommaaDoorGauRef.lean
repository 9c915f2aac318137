/- Layer 3, gauss: the document's answers that reckon: a contract for each function. -/
import Derived.Test.YtfohdoahddommaaDoorGauA
import Derived.Deep.QuietTactic
import Derived.BigQuiet
import Derived.StillTailTactics
namespace Go.Proofs.YtfohdoahddommaaDoor
open Go.RowKit
set_option linter.unusedVariables false
set_option maxRecDepth 100000

set_option maxHeartbeats 400000 in
theorem refinto_any (n : Int) (w : World) :
    Calls Tryd.prog 21 #[.int .i64 n] w fun e w' => e = .returned (.int .i64 (into n)) ∧ w = w' := by
  obtain ⟨r, hr⟩ : ∃ r, n.tmod 1048576 = r := ⟨_, rfl⟩
  have hb : -1048576 < r ∧ r < 1048576 := by
    have h1 := Int.tmod_lt_of_pos n (b := 1048576) (by decide)
    have h2 := Int.lt_tmod_of_pos n (b := 1048576) (by decide)
    omega
  have hm : r % 1048576 = n % 1048576 := by
    rw [← hr]
    have := Int.mul_tdiv_add_tmod n 1048576
    omega
  obtain ⟨hb1, hb2⟩ := hb
  have H1 : Hid (r < -524288 → into n = r + 1048576) := hid (fun h => by rw [into_def]; omega)
  have H2 : Hid (-524288 ≤ r → r < 524288 → into n = r) := hid (fun h h' => by rw [into_def]; omega)
  have H3 : Hid (524288 ≤ r → into n = r - 1048576) := hid (fun h => by rw [into_def]; omega)
  clear hm
  by_cases c1 : r < -524288
  · have c2 : ¬ (524288 ≤ r + 1048576) := by omega
    go_enter Tryd.func21, Tryd.ntmps21
    go_wp2
    go_ret
    exact ⟨ret_int (H1.out c1).symm, rfl⟩
  · by_cases c2 : 524288 ≤ r
    · go_enter Tryd.func21, Tryd.ntmps21
      go_wp2
      go_ret
      exact ⟨ret_int (H3.out c2).symm, rfl⟩
    · go_enter Tryd.func21, Tryd.ntmps21
      go_wp2
      go_ret
      exact ⟨ret_int (H2.out (by omega) (by omega)).symm, rfl⟩

theorem refinto_quiet (n : Int) (w : World) :
    Calls Tryd.prog 21 #[.int .i64 n] w fun e w' => e = .returned (.int .i64 (into n)) ∧ w' = w :=
  (refinto_any n w).mono fun _ _ ⟨he, hw⟩ => ⟨he, hw.symm⟩

set_option maxHeartbeats 400000 in
theorem refof_val (m n : Int) (w : World) :
    Calls Tryd.prog 15 #[.int .i64 m, .int .i64 n] w fun e w' => e = .returned (val (into m) (into n)) ∧ Below w.heap.size w w' := by
  go_enter Tryd.func15, Tryd.ntmps15
  go_wp2_with fail
  refine (refinto_any m _).mono ?_
  rintro e w1 ⟨rfl, rfl⟩
  go_wp2_with fail
  refine (refinto_any n _).mono ?_
  rintro e w1 ⟨rfl, rfl⟩
  go_wp2
  refine bodyPost_ret (v := val (into m) (into n)) (by simp [results, Tryd.results15, go_sem]) rfl ⟨rfl, ?_⟩
  exact (Below.refl _ w).alloc (Nat.le_refl _) _

theorem refof_from {W : World} (m n : Int) (w : World) (hb : Hid (Below W.heap.size W w)) :
    Calls Tryd.prog 15 #[.int .i64 m, .int .i64 n] w fun e w' => e = .returned (val (into m) (into n)) ∧ Hid (Below W.heap.size W w') :=
  (refof_val m n w).mono fun e w' ⟨he, h⟩ => ⟨he, hid (hb.out.trans (h.mono hb.out.size))⟩

set_option maxHeartbeats 1000000 in
theorem refadd_any (a b c d : Int) (w : World) :
    Calls Tryd.prog 12 #[val a b, val c d] w fun e w' => e = .returned (val (into (into a + into c)) (into (into b + into d))) ∧ Below w.heap.size w w' := by
  have := into_ge a; have := into_le a; have := into_ge b; have := into_le b
  have := into_ge c; have := into_le c; have := into_ge d; have := into_le d
  go_enter Tryd.func12, Tryd.ntmps12
  go_wp2_with fail
  obtain ⟨W, hW, ⟨k1, k2, k3, k4, k5, k6⟩, ⟨k7, k8⟩, ⟨l0, l1, l2⟩, h0, HW⟩ := cells3 w (.int .i64 a) (.int .i64 b) (.int .i64 c) (.int .i64 d) (.int .i64 0) (.int .i64 0) 24
  rw [hW]; clear hW
  have hw1 : IntKind.i64.wrap (into a + into c) = into a + into c := by rw [IntKind.wrap_i64]; omega
  have hw2 : IntKind.i64.wrap (into b + into d) = into b + into d := by rw [IntKind.wrap_i64]; omega
  go_still_tail 14, (by kernel_rfl)
  still_call (refinto_quiet _ _)
  repeat still_step
  still_call (refinto_quiet _ _)
  repeat still_step
  still_call (refinto_quiet _ _)
  repeat still_step
  still_call (refinto_quiet _ _)
  repeat still_step
  refine wpStill_nil ?_
  change wpList _ _ _ _ _ W.drew
  go_wp2_with fail
  refine (refof_from (W := W) _ _ _ h0).mono ?_
  rintro e w' ⟨rfl, hb⟩
  obtain ⟨hc, hf⟩ := bcell hb.out
  go_wp2
  refine bodyPost_ret (v := val (into (into a + into c)) (into (into b + into d))) (by simp [results, Tryd.results12, go_sem, hc, k5, k6, l2]) rfl ⟨rfl, ?_⟩
  exact ((HW.out.trans (hb.out.mono HW.out.size)).setCell (by simp only; omega) _).setCell (by simp only; omega) _

set_option maxHeartbeats 1000000 in
theorem refsub_any (a b c d : Int) (w : World) :
    Calls Tryd.prog 13 #[val a b, val c d] w fun e w' => e = .returned (val (into (into a - into c)) (into (into b - into d))) ∧ Below w.heap.size w w' := by
  have := into_ge a; have := into_le a; have := into_ge b; have := into_le b
  have := into_ge c; have := into_le c; have := into_ge d; have := into_le d
  go_enter Tryd.func13, Tryd.ntmps13
  go_wp2_with fail
  obtain ⟨W, hW, ⟨k1, k2, k3, k4, k5, k6⟩, ⟨k7, k8⟩, ⟨l0, l1, l2⟩, h0, HW⟩ := cells3 w (.int .i64 a) (.int .i64 b) (.int .i64 c) (.int .i64 d) (.int .i64 0) (.int .i64 0) 24
  rw [hW]; clear hW
  have hw1 : IntKind.i64.wrap (into a - into c) = into a - into c := by rw [IntKind.wrap_i64]; omega
  have hw2 : IntKind.i64.wrap (into b - into d) = into b - into d := by rw [IntKind.wrap_i64]; omega
  go_still_tail 14, (by kernel_rfl)
  still_call (refinto_quiet _ _)
  repeat still_step
  still_call (refinto_quiet _ _)
  repeat still_step
  still_call (refinto_quiet _ _)
  repeat still_step
  still_call (refinto_quiet _ _)
  repeat still_step
  refine wpStill_nil ?_
  change wpList _ _ _ _ _ W.drew
  go_wp2_with fail
  refine (refof_from (W := W) _ _ _ h0).mono ?_
  rintro e w' ⟨rfl, hb⟩
  obtain ⟨hc, hf⟩ := bcell hb.out
  go_wp2
  refine bodyPost_ret (v := val (into (into a - into c)) (into (into b - into d))) (by simp [results, Tryd.results13, go_sem, hc, k5, k6, l2]) rfl ⟨rfl, ?_⟩
  exact ((HW.out.trans (hb.out.mono HW.out.size)).setCell (by simp only; omega) _).setCell (by simp only; omega) _

set_option maxHeartbeats 2000000 in
theorem refmul_any (a b c d : Int) (w : World) :
    Calls Tryd.prog 14 #[val a b, val c d] w fun e w' => e = .returned (val (into (into a * into c - into b * into d)) (into (into a * into d + into b * into c))) ∧ Below w.heap.size w w' := by
  go_enter Tryd.func14, Tryd.ntmps14
  go_wp2_with fail
  obtain ⟨W, hW, ⟨k1, k2, k3, k4, k5, k6⟩, ⟨k7, k8⟩, ⟨l0, l1, l2⟩, h0, HW⟩ := cells3 w (.int .i64 a) (.int .i64 b) (.int .i64 c) (.int .i64 d) (.int .i64 0) (.int .i64 0) 24
  rw [hW]; clear hW
  go_quiet ((go_at_call 21; exact Calls.quiet_of_same (refinto_quiet _ _)))
  have b1 := abs_mul_le (into_abs a) (into_abs c)
  have b2 := abs_mul_le (into_abs b) (into_abs d)
  have b3 := abs_mul_le (into_abs a) (into_abs d)
  have b4 := abs_mul_le (into_abs b) (into_abs c)
  generalize hp : into a = p at b1 b3 ⊢
  generalize hq : into b = q at b2 b4 ⊢
  generalize hr : into c = r at b1 b4 ⊢
  generalize hs : into d = s at b2 b3 ⊢
  have HPP := hid hp; have HQQ := hid hq; have HRR := hid hr; have HSS := hid hs; clear hp hq hr hs
  have HB1 := hid b1; have HB2 := hid b2; have HB3 := hid b3; have HB4 := hid b4
  have w1 : wrap64 (p * r) = p * r := by unfold wrap64; omega
  have w2 : wrap64 (q * s) = q * s := by unfold wrap64; omega
  have w3 : wrap64 (p * s) = p * s := by unfold wrap64; omega
  have w4 : wrap64 (q * r) = q * r := by unfold wrap64; omega
  have w5 : wrap64 (p * r - q * s) = p * r - q * s := by unfold wrap64; omega
  have w6 : wrap64 (p * s + q * r) = p * s + q * r := by unfold wrap64; omega
  clear b1 b2 b3 b4
  go_wp2_with fail
  refine (refof_from (W := W) _ _ _ (hid (below_drewN (Below.refl _ W) _))).mono ?_
  rintro e w' ⟨rfl, hb⟩
  obtain ⟨hc, hf⟩ := bcell hb.out
  go_wp2
  refine bodyPost_ret (v := val (into (p * r - q * s)) (into (p * s + q * r))) (by simp [results, Tryd.results14, go_sem, hc, k5, k6, l2]) rfl ⟨by rw [HPP.out, HQQ.out, HRR.out, HSS.out], ?_⟩
  exact ((HW.out.trans (hb.out.mono HW.out.size)).setCell (by simp only; omega) _).setCell (by simp only; omega) _

end Go.Proofs.YtfohdoahddommaaDoor
