/- Layer 5, check: the document's example; the walk of CheckDead. -/
import Derived.Test.YtnhibimpolamoaaChkF
import Derived.Test.YtnhibimpolamoaaChkN
import Derived.Test.YtnhibimpolamoaaIns
import Derived.Test.YtnhibimpolamoaaOwn
import Derived.Deep.QuietTactic
import Derived.BigQuiet
namespace Go.Proofs.Ytnhibimpolamoaa
open Go.RowKit Go.Lib
set_option linter.unusedVariables false

theorem ex_chk : chk [(3, 0), (14, 0)] = some ⟨[0, 1], [0, 0], 1, 1, false, false⟩ := by rfl
theorem ex_no : chk [(14, 0)] = none := by rfl

set_option maxRecDepth 100000 in
set_option maxHeartbeats 400000 in
theorem awake5 (w : World) :
    Calls Try.prog 7 #[] w fun e w' => e = .returned (.bool true) ∧ Below w.heap.size w w' := by
  have HX := hid ((Below.refl _ w).alloc (Nat.le_refl _) (.cells #[.int .i64 3, .int .i64 0, .int .i64 14, .int .i64 0] 36))
  go_enter Try.func7, Try.ntmps7
  go_wp2_with fail
  refine (check_any _ [(3, 0), (14, 0)] _ (hid ex_chk) (by decide) _ (SlV.lit2 w 3 0 14 0 _)).mono ?_
  rintro e w1 ⟨v1, rfl, hsl, hb⟩
  obtain ⟨A, c, rfl, hc, hA⟩ := hsl
  obtain ⟨b1, o1, rfl, hbB, hcell⟩ := hA (by decide)
  have c0 : w1.cell? ⟨b1, o1, none⟩ = some (.int .i64 0) := hcell 0 (by decide)
  have c1 : w1.cell? ⟨b1, o1 + 1, none⟩ = some (.int .i64 1) := hcell 1 (by decide)
  have hlen : ([0, 1] : List Int).length = 2 := rfl
  simp only at c0 c1 hc ⊢
  rw [hlen] at hc ⊢
  have HB := hid (HX.out.trans (hb.mono HX.out.size))
  clear hb hA hcell hlen HX
  have HB2 := hid ((HB.out.alloc HB.out.size (.cells #[.slice (some ⟨b1, o1, none⟩) 2 c, .int .i64 1, .int .i64 1, .bool false, .bool false] 27)).alloc (Nat.le_trans HB.out.size (by simp)) (.cells #[.int .i64 14, .int .i64 0] 36))
  have HS : Hid (SlV ((w1.alloc (.cells #[.slice (some ⟨b1, o1, none⟩) 2 c, .int .i64 1, .int .i64 1, .bool false, .bool false] 27)).alloc (.cells #[.int .i64 14, .int .i64 0] 36)) ((w1.alloc (.cells #[.slice (some ⟨b1, o1, none⟩) 2 c, .int .i64 1, .int .i64 1, .bool false, .bool false] 27)).alloc (.cells #[.int .i64 14, .int .i64 0] 36)).heap.size (.slice (some ⟨w1.heap.size + 1, 0, none⟩) 1 1) [(14, 0)]) := hid (by
    have := SlV.lit1 (w1.alloc (.cells #[.slice (some ⟨b1, o1, none⟩) 2 c, .int .i64 1, .int .i64 1, .bool false, .bool false] 27)) 14 0 36
    rw [World.size_alloc (w := w1)] at this
    exact this)
  go_wp2_with fail
  refine (safe_any _ [(14, 0)] false (hid (by rw [ex_no]; rfl)) (by decide) _ HS.out).mono ?_
  rintro e w2 ⟨rfl, hb⟩
  have HB3 := hid (HB2.out.trans (hb.mono HB2.out.size)); clear hb
  go_wp2_with fail
  go_ret
  exact ⟨rfl, HB3.out⟩

end Go.Proofs.Ytnhibimpolamoaa
