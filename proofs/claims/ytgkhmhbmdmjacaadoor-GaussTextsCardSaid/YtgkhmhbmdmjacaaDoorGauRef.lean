/- Layer 3, gauss: the document's answers that reckon: a contract for each function. -/
import Derived.Test.YtgkhmhbmdmjacaaDoorGauA
import Derived.Deep.QuietTactic
import Derived.BigQuiet
import Derived.StillTailTactics
namespace Go.Proofs.YtgkhmhbmdmjacaaDoor
open Go.RowKit
set_option linter.unusedVariables false

set_option maxHeartbeats 400000 in
theorem refinto_any (n : Int) (w : World) :
    Calls Tryd.prog 14 #[.int .i64 n] w fun e w' => e = .returned (.int .i64 (into n)) ∧ w = w' := by
  obtain ⟨r, hr⟩ : ∃ r, n.tmod 1048576 = r := ⟨_, rfl⟩
  have hb : -1048576 < r ∧ r < 1048576 := by
    have h1 := Int.tmod_lt_of_pos n (b := 1048576) (by decide)
    have h2 := Int.lt_tmod_of_pos n (b := 1048576) (by decide)
    omega
  have hm : r % 1048576 = n % 1048576 := by
    rw [← hr]
    have := Int.mul_tdiv_add_tmod n 1048576
    omega
  obtain ⟨hb1, hb2⟩ := hb
  have H1 : Hid (r < -524288 → into n = r + 1048576) := hid (fun h => by rw [into_def]; omega)
  have H2 : Hid (-524288 ≤ r → r < 524288 → into n = r) := hid (fun h h' => by rw [into_def]; omega)
  have H3 : Hid (524288 ≤ r → into n = r - 1048576) := hid (fun h => by rw [into_def]; omega)
  clear hm
  by_cases c1 : r < -524288
  · have c2 : ¬ (524288 ≤ r + 1048576) := by omega
    go_enter Tryd.func14, Tryd.ntmps14
    go_wp2
    go_ret
    exact ⟨ret_int (H1.out c1).symm, rfl⟩
  · by_cases c2 : 524288 ≤ r
    · go_enter Tryd.func14, Tryd.ntmps14
      go_wp2
      go_ret
      exact ⟨ret_int (H3.out c2).symm, rfl⟩
    · go_enter Tryd.func14, Tryd.ntmps14
      go_wp2
      go_ret
      exact ⟨ret_int (H2.out (by omega) (by omega)).symm, rfl⟩

theorem refinto_quiet (n : Int) (w : World) :
    Calls Tryd.prog 14 #[.int .i64 n] w fun e w' => e = .returned (.int .i64 (into n)) ∧ w' = w :=
  (refinto_any n w).mono fun _ _ ⟨he, hw⟩ => ⟨he, hw.symm⟩

set_option maxHeartbeats 400000 in
theorem refof_val (m n : Int) (w : World) :
    Calls Tryd.prog 6 #[.int .i64 m, .int .i64 n] w fun e w' => e = .returned (val (into m) (into n)) ∧ Below w.heap.size w w' := by
  go_enter Tryd.func6, Tryd.ntmps6
  go_wp2_with fail
  refine (refinto_any m _).mono ?_
  rintro e w1 ⟨rfl, rfl⟩
  go_wp2_with fail
  refine (refinto_any n _).mono ?_
  rintro e w1 ⟨rfl, rfl⟩
  go_wp2
  refine bodyPost_ret (v := val (into m) (into n)) (by simp [results, Tryd.results6, go_sem]) rfl ⟨rfl, ?_⟩
  exact (Below.refl _ w).alloc (Nat.le_refl _) _

theorem refof_from {W : World} (m n : Int) (w : World) (hb : Hid (Below W.heap.size W w)) :
    Calls Tryd.prog 6 #[.int .i64 m, .int .i64 n] w fun e w' => e = .returned (val (into m) (into n)) ∧ Hid (Below W.heap.size W w') :=
  (refof_val m n w).mono fun e w' ⟨he, h⟩ => ⟨he, hid (hb.out.trans (h.mono hb.out.size))⟩

end Go.Proofs.YtgkhmhbmdmjacaaDoor
