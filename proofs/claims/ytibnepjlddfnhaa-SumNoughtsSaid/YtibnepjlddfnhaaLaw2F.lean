/- Layer 2, sum: SumFrames' walk. -/
import Derived.Test.YtibnepjlddfnhaaLaw2
import Derived.Test.YtibnepjlddfnhaaSumP
namespace Go.Proofs.Ytibnepjlddfnhaa
open Go.RowKit
set_option linter.unusedVariables false

set_option maxRecDepth 100000 in
set_option maxHeartbeats 1000000 in
theorem law_frames (S R Y : ByteArray) (w : World) (hS : S.size ≤ maxLen) (hR : R.size ≤ maxLen) (hY : Y.size ≤ maxLen) :
    Calls Try.prog 4 #[.string S, .string R, .string Y] w fun e w' => e = .returned (.bool true) ∧ Below w.heap.size w w' := by
  unfold maxLen at hS hR hY
  by_cases h1 : 3000 < S.size
  · go_enter Try.func4, Try.ntmps4
    go_wp2_with fail
    refine (awake2 _).mono ?_
    rintro e w1 ⟨rfl, hb1⟩
    have HB := hid hb1; clear hb1
    go_wp2
    go_ret
    exact ⟨rfl, HB.out⟩
  by_cases h2 : 300 < R.size
  · go_enter Try.func4, Try.ntmps4
    go_wp2_with fail
    refine (awake2 _).mono ?_
    rintro e w1 ⟨rfl, hb1⟩
    have HB := hid hb1; clear hb1
    go_wp2
    go_ret
    exact ⟨rfl, HB.out⟩
  by_cases h3 : 3000 < Y.size
  · go_enter Try.func4, Try.ntmps4
    go_wp2_with fail
    refine (awake2 _).mono ?_
    rintro e w1 ⟨rfl, hb1⟩
    have HB := hid hb1; clear hb1
    go_wp2
    go_ret
    exact ⟨rfl, HB.out⟩
  obtain ⟨F, hF⟩ : ∃ F : ByteArray, F = ⟨(frameL S.data.toList).toArray⟩ := ⟨_, rfl⟩
  have hFl : F.data.toList = frameL S.data.toList := by rw [hF]
  have hFs : F.size = 8 + S.size := by rw [size_list, hFl, frameL_len, ← size_list]
  obtain ⟨X, hX⟩ : ∃ X, F ++ R = X := ⟨_, rfl⟩
  have hXs : X.size = 8 + S.size + R.size := by rw [← hX, size_append, hFs]
  have HO : Hid (Opn X S R 0) := hid (Opn.of_frame X S R (by rw [← hX, bytes_append, hFl]) (by omega))
  obtain ⟨A, B, E, hO⟩ := Opn.total Y
  have HOY := hid hO
  have HF := hid hF; have HX := hid hX
  clear hO hF hX hFl
  go_enter Try.func4, Try.ntmps4
  go_wp2_with fail
  refine (awake2 _).mono ?_
  rintro e w1 ⟨rfl, hb1⟩
  have HB := hid hb1; clear hb1
  go_wp2_with fail
  refine (frame_any S F HF.out (by omega) _).mono ?_
  rintro e w2 ⟨rfl, hb2⟩
  have HB2 := hid (HB.out.trans (hb2.mono HB.out.size)); clear hb2
  go_wp2_with fail
  rw [HX.out]
  refine (open_gen X S R 0 HO.out (by omega) _).mono ?_
  rintro e w3 ⟨rfl, hb3⟩
  have HB3 := hid (HB2.out.trans (hb3.mono HB2.out.size)); clear hb3
  go_wp2_with fail
  refine (open_gen Y A B E HOY.out (by omega) _).mono ?_
  rintro e w4 ⟨rfl, hb4⟩
  have HB4 := hid (HB3.out.trans (hb4.mono HB3.out.size)); clear hb4
  go_wp2_with fail
  refine (refopen_gen Y A B E HOY.out (by omega) _).mono ?_
  rintro e w5 ⟨rfl, hb5⟩
  have HB5 := hid (HB4.out.trans (hb5.mono HB4.out.size)); clear hb5
  go_wp2_with fail
  refine (refframe_any S F HF.out (by omega) _).mono ?_
  rintro e w6 ⟨rfl, hb6⟩
  have HB6 := hid (HB5.out.trans (hb6.mono HB5.out.size)); clear hb6
  go_wp2
  go_ret
  exact ⟨rfl, HB6.out⟩

end Go.Proofs.Ytibnepjlddfnhaa
