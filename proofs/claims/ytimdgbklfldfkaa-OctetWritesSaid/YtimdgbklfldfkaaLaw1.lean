/- Layer 1, octet: the four laws' walks. -/
import Derived.Test.YtimdgbklfldfkaaOctNil
import Derived.Test.YtimdgbklfldfkaaOctO
import Derived.Test.YtimdgbklfldfkaaOctR
namespace Go.Proofs.Ytimdgbklfldfkaa
open Go.RowKit

theorem WrAt.new (w : World) (t : TypeId) (ht : t ≠ 54) : WrAt (w.alloc (.cells #[.pointer none, .int .i64 0] t)) w.heap.size 0 [] := by
  refine ⟨.pointer none, [], ?_, ?_, ?_, ?_, rfl, fun cs fr e => ?_, rfl⟩
  · have := new_cells w #[.pointer none, .int .i64 0] t 0 _ rfl
    rwa [addr_add] at this
  · have := new_cells w #[.pointer none, .int .i64 0] t 1 _ rfl
    rwa [addr_add] at this
  · rw [World.frozen?_alloc_new]
  · rw [World.frozen?_alloc_new]
  · rw [heap_alloc_new] at e
    injection e with e
    injection e with _ e
    exact ht e

set_option maxHeartbeats 400000 in
theorem awake1 (w : World) : Calls Try.prog 7 #[] w fun e w' => e = .returned (.bool true) ∧ Below w.heap.size w w' := by
  go_enter Try.func7, Try.ntmps7
  go_wp2_with fail
  refine (wnum_ok w.heap.size 0 [] _ [-1] _ ((WrAt.new w _ (by decide)).alloc _) (SlI.one2 w _ .i64 (-1) _) (by simp [Num32]) (by simp) (by simp)).mono ?_
  rintro e w1 ⟨rfl, hw1, hg1⟩
  have hw1 : WrAt w1 w.heap.size 0 [255, 255, 255, 255] := hw1
  have hb1 : Below w.heap.size w w1 := (((Below.refl _ w).alloc (Nat.le_refl _) _).alloc (by simp) _).trans (turned_below_of hg1 (by simp; omega) (Nat.le_refl _))
  have HB := hid hb1; have HW := hid hw1; clear hg1 hw1 hb1
  go_wp2_with fail
  refine (out_any _ _ _ _ HW.out (by simp)).mono ?_
  rintro e w2 ⟨rfl, hb2⟩
  have HB2 := hid hb2; clear hb2
  go_wp2
  go_ret
  exact ⟨rfl, HB.out.trans (HB2.out.mono HB.out.size)⟩

theorem law_none (n : Int) (s : ByteArray) (w : World) (_ : (Lit.int .i64 n).wf = true) (_ : s.size ≤ maxLen) :
    Calls Try.prog 5 #[.int .i64 n, .string s] w fun e w' => e = .returned (.bool true) ∧ Below w.heap.size w w' := by
  go_enter Try.func5, Try.ntmps5
  go_wp2_with fail
  refine (awake1 _).mono ?_
  rintro e w1 ⟨rfl, hb1⟩
  go_wp2_with (first
    | (go_at_call 15; refine (onil_num _).mono ?_; rintro e w' ⟨rfl, rfl⟩)
    | (go_at_call 16; refine (onil_text _ _).mono ?_; rintro e w' ⟨rfl, rfl⟩)
    | (go_at_call 20; refine (onil_within _ _ _).mono ?_; rintro e w' ⟨rfl, rfl⟩)
    | (go_at_call 10; refine (onil_wnum _ _).mono ?_; rintro e w' ⟨rfl, rfl⟩)
    | (go_at_call 12; refine (onil_wtext _ _).mono ?_; rintro e w' ⟨rfl, rfl⟩)
    | (go_at_call 11; refine (onil_out _).mono ?_; rintro e w' ⟨rfl, rfl⟩)
    | (go_at_call 17; refine (onil_left _).mono ?_; rintro e w' ⟨rfl, rfl⟩)
    | (go_at_call 18; refine (onil_end _).mono ?_; rintro e w' ⟨rfl, rfl⟩))
  go_ret
  exact ⟨rfl, hb1.alloc hb1.size _⟩

end Go.Proofs.Ytimdgbklfldfkaa
