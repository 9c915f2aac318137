/- Layer 6, vm: ofTwo; what do needs. -/
import Derived.Test.YtfohdoahddommaaDoorVmB
namespace Go.Proofs.YtfohdoahddommaaDoor
open Go.RowKit Go.Lib
set_option linter.unusedVariables false
set_option maxRecDepth 100000

theorem ret_two {w1 W w : World} (HW : Hid (Below w.heap.size w W)) (hb : Hid (Below W.heap.size W w1)) (u v : Value) : Below w.heap.size w ((w1.setCell ⟨w.heap.size + 1 + 1, 0, none⟩ u).setCell ⟨w.heap.size + 1 + 1, 1, none⟩ v) :=
  ((HW.out.trans (hb.out.mono HW.out.size)).setCell (by simp only; omega) _).setCell (by simp only; omega) _

set_option maxHeartbeats 2000000 in
theorem oftwo_any (o a b c d : Int) (ho : o = 6 ∨ o = 7 ∨ o = 8 ∨ o = 17) (h1 : I64 a ∧ I64 b) (h2 : I64 c ∧ I64 d) (w : World) :
    Calls Tryd.prog 54 #[.int .i64 o, val a b, val c d] w fun e w' => e = .returned (val (twoV o (a, b) (c, d)).1 (twoV o (a, b) (c, d)).2) ∧ Below w.heap.size w w' := by
  obtain ⟨p, q, hpq⟩ := pair_of (p := twoV o (a, b) (c, d))
  rw [hpq]
  have H1 := hid h1; have H2 := hid h2; clear h1 h2
  obtain ⟨W, hW, ⟨k0, k1, k2, k3, k4, k5⟩, ⟨f0, f1⟩, ⟨l0, l1, l2⟩, hd, HW⟩ := cells3 w (.int .i64 a) (.int .i64 b) (.int .i64 c) (.int .i64 d) (.int .i64 0) (.int .i64 0) 24
  rcases ho with rfl | rfl | rfl | rfl
  · have HS : Hid (sumV [(a, b), (c, d)] = (p, q)) := hid (by rw [sum2, ← addV_eq]; exact hpq)
    clear hpq
    go_enter Tryd.func54, Tryd.ntmps54
    go_wp2_with fail
    clear hW
    refine (add_2 (W := W) a b c d p q _ HS H1 H2 _ (hid (Below.refl _ _))).mono ?_
    rintro e w1 ⟨rfl, hb⟩
    obtain ⟨hc, hf⟩ := bcell hb.out
    go_wp2
    refine bodyPost_ret (v := val p q) (by simp [results, Tryd.results54, go_sem, hc, l2, k4, k5]) rfl ⟨rfl, ret_two HW hb _ _⟩
  · have HS : Hid ((into (into a - into c), into (into b - into d)) = (p, q)) := hid hpq
    clear hpq
    go_enter Tryd.func54, Tryd.ntmps54
    go_wp2_with fail
    clear hW
    refine (sub_any a b c d H1.out.1 H1.out.2 H2.out.1 H2.out.2 W).mono ?_
    rintro e w1 ⟨rfl, hb⟩
    obtain ⟨hc, hf⟩ := bcell hb
    have HB := hid hb; clear hb
    have e1 := congrArg Prod.fst HS.out
    have e2 := congrArg Prod.snd HS.out
    simp only at e1 e2
    rw [e1, e2]
    go_wp2
    refine bodyPost_ret (v := val p q) (by simp [results, Tryd.results54, go_sem, hc, l2, k4, k5]) rfl ⟨rfl, ret_two HW HB _ _⟩
  · have HS : Hid (prodV [(a, b), (c, d)] = (p, q)) := hid (by rw [prod2, ← mulV_eq]; exact hpq)
    clear hpq
    go_enter Tryd.func54, Tryd.ntmps54
    go_wp2_with fail
    clear hW
    refine (mul_2 (W := W) a b c d p q _ HS H1 H2 _ (hid (Below.refl _ _))).mono ?_
    rintro e w1 ⟨rfl, hb⟩
    obtain ⟨hc, hf⟩ := bcell hb.out
    go_wp2
    refine bodyPost_ret (v := val p q) (by simp [results, Tryd.results54, go_sem, hc, l2, k4, k5]) rfl ⟨rfl, ret_two HW hb _ _⟩
  · have HS : Hid (lessV (a, b) (c, d) = (p, q)) := hid hpq
    clear hpq
    go_enter Tryd.func54, Tryd.ntmps54
    go_wp2_with fail
    clear hW
    refine (less_any a b c d H1.out.1 H1.out.2 H2.out.1 H2.out.2 W).mono ?_
    rintro e w1 ⟨rfl, hb⟩
    obtain ⟨hc, hf⟩ := bcell hb
    have HB := hid hb; clear hb
    obtain ⟨β, hβ⟩ : ∃ β, decide (into a < into c) = β := ⟨_, rfl⟩
    rw [hβ]
    cases β with
    | true =>
      have e1 : Hid (p = 1 ∧ q = 0) := hid (by have := HS.out; unfold lessV at this; rw [if_pos (of_decide_eq_true hβ)] at this; injection this with h1 h2; exact ⟨h1.symm, h2.symm⟩)
      obtain ⟨rfl, rfl⟩ := e1.out
      clear hβ
      go_wp2_with fail
      refine (of_any 1 0 ⟨by decide, by decide⟩ ⟨by decide, by decide⟩ w1).mono ?_
      rintro e w2 ⟨rfl, hb2⟩
      rw [into_of 1 (by omega) (by omega), into_of 0 (by omega) (by omega)]
      have HB2 : Hid (Below W.heap.size W w2) := hid (HB.out.trans (hb2.mono HB.out.size))
      obtain ⟨hc, hf⟩ := bcell HB2.out
      go_wp2
      refine bodyPost_ret (v := val 1 0) (by simp [results, Tryd.results54, go_sem, hc, l2, k4, k5]) rfl ⟨rfl, ret_two HW HB2 _ _⟩
    | false =>
      have e1 : Hid (p = 0 ∧ q = 0) := hid (by have := HS.out; unfold lessV at this; rw [if_neg (of_decide_eq_false hβ)] at this; injection this with h1 h2; exact ⟨h1.symm, h2.symm⟩)
      obtain ⟨rfl, rfl⟩ := e1.out
      clear hβ
      go_wp2_with fail
      refine (of_any 0 0 ⟨by decide, by decide⟩ ⟨by decide, by decide⟩ w1).mono ?_
      rintro e w2 ⟨rfl, hb2⟩
      rw [into_of 0 (by omega) (by omega)]
      have HB2 : Hid (Below W.heap.size W w2) := hid (HB.out.trans (hb2.mono HB.out.size))
      obtain ⟨hc, hf⟩ := bcell HB2.out
      go_wp2
      refine bodyPost_ret (v := val 0 0) (by simp [results, Tryd.results54, go_sem, hc, l2, k4, k5]) rfl ⟨rfl, ret_two HW HB2 _ _⟩

section
variable {w : World} {B b : Nat} {vp : Value} {s : VmS} {fx : List Nat}

theorem Mch2.alloc (h : Mch2 w B b vp s fx) (o : Obj) : MP B b vp s fx w (w.alloc o) := h.below ((Below.refl _ w).alloc (Nat.le_refl _) o)

/-- One value is laid, two are. -/
theorem lay_one {t : TypeId} (x y : Int) (h : Hid (Mch2 w B b vp s fx)) (h8 : s.st.length ≤ 900) :
    Calls Tryd.prog 51 #[.pointer (some ⟨b, 0, none⟩), .slice (some ⟨w.heap.size, 0, none⟩) 1 1] (w.alloc (.cells #[.int .i64 x, .int .i64 y] t)) fun e w' => e = .returned (.tuple #[]) ∧ MP B b vp { s with st := s.st ++ [(x, y)] } fx w w' := by
  have h1 := h.out.alloc (.cells #[.int .i64 x, .int .i64 y] t)
  refine (lay_mp (q := [(x, y)]) h1.m (SlV.lit1 w x y t) (by omega) (by simp; omega)).mono ?_
  rintro e w' ⟨rfl, h2⟩
  exact ⟨rfl, h1.trans h2⟩

theorem lay_two {t : TypeId} {g : Nat} (x y x' y' : Int) (h : Hid (Mch2 w B b vp s fx)) (h8 : s.st.length ≤ 900) (hg : g = w.heap.size) :
    Calls Tryd.prog 51 #[.pointer (some ⟨b, 0, none⟩), .slice (some ⟨g, 0, none⟩) 2 2] (w.alloc (.cells #[.int .i64 x, .int .i64 y, .int .i64 x', .int .i64 y'] t)) fun e w' => e = .returned (.tuple #[]) ∧ MP B b vp { s with st := s.st ++ [(x, y), (x', y')] } fx w w'   := by
  subst hg
  have h1 := h.out.alloc (.cells #[.int .i64 x, .int .i64 y, .int .i64 x', .int .i64 y'] t)
  refine (lay_mp (q := [(x, y), (x', y')]) h1.m (SlV.lit2 w x y x' y' t) (by omega) (by simp; omega)).mono ?_
  rintro e w' ⟨rfl, h2⟩
  exact ⟨rfl, h1.trans h2⟩

/-- The boxes of do: the machine leaves them alone. -/
theorem box_do (h : Mch2 w B b vp s fx) (o a v1 v2 : Int) (t1 t2 : TypeId) : ∃ W : World, (w.alloc (.cells #[.int .i64 o, .int .i64 a] t1)).alloc (.cells #[.int .i64 v1, .int .i64 v2] t2) = W ∧
    Hid (Mch2 W B b vp s ((w.heap.size + 1) :: w.heap.size :: fx)) ∧
    (W.cell? ⟨w.heap.size, 0, none⟩ = some (.int .i64 o) ∧ W.cell? ⟨w.heap.size, 1, none⟩ = some (.int .i64 a) ∧ W.cell? ⟨w.heap.size + 1, 0, none⟩ = some (.int .i64 v1) ∧ W.cell? ⟨w.heap.size + 1, 1, none⟩ = some (.int .i64 v2)) ∧
    Hid (∀ w' s', MP B b vp s' ((w.heap.size + 1) :: w.heap.size :: fx) W w' → MP B b vp s' fx w w') := by
  have h1 := h.more (.cells #[.int .i64 o, .int .i64 a] t1)
  have h2 := h1.more (.cells #[.int .i64 v1, .int .i64 v2] t2)
  rw [World.size_alloc] at h2
  refine ⟨_, rfl, hid h2, ⟨by simp, by simp, by simp, by simp⟩, hid fun w' s' hm => ?_⟩
  have a1 := h.alloc (.cells #[.int .i64 o, .int .i64 a] t1)
  have a2 := a1.m.alloc (.cells #[.int .i64 v1, .int .i64 v2] t2)
  exact (a1.trans a2).trans hm.less.less

end

theorem top_cut (st : List (Int × Int)) (h : 2 ≤ st.length) : topV (cutV st 1) 1 = topV st 2 ∧ cutV (cutV st 1) 1 = cutV st 2 := by
  unfold topV cutV
  rw [List.length_take, Nat.min_eq_left (by omega), show st.length - 1 - 1 = st.length - 2 by omega, List.take_take, Nat.min_eq_left (by omega)]
  refine ⟨?_, rfl⟩
  rw [List.getD_eq_getElem?_getD, List.getD_eq_getElem?_getD, List.getElem?_take_of_lt (by omega)]

end Go.Proofs.YtfohdoahddommaaDoor
