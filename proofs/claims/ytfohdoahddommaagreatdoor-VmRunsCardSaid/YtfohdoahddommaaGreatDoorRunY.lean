/- Layer 6, vm: the document's Run: its operations, 4. -/
import Derived.Test.YtfohdoahddommaaGreatDoorRunX
import Derived.Deep.LoopGhost
import Derived.Deep.DeepCutAuto
import Derived.Deep.CutBlock
import Derived.Deep.QuietTactic
import Derived.BigQuiet
import Derived.BigRegion
import Derived.Test.YtfohdoahddommaaGreatDoorRefX
namespace Go.Proofs.YtfohdoahddommaaGreatDoor
open Go.RowKit Go.Lib
set_option linter.unusedVariables false
set_option maxRecDepth 100000

section
variable {w : World} {v1 v2 : Int} {x0 : Value} {N1 T1 : Int} {a : Int} {s : VmS}

theorem RM.put' {wr : World} {g n c : Nat} {vo : Value} (h : RM w v1 v2 wr (.slice (some ⟨g, 0, none⟩) n c) vo s) (hn : s.st.length = n) (j : Nat) (x y : Int) :
    RM w v1 v2 ((wr.setCell ⟨g, j * 2, none⟩ (.int .i64 x)).setCell ⟨g, j * 2 + 1, none⟩ (.int .i64 y)) (.slice (some ⟨g, 0, none⟩) n c) vo { s with st := s.st.set j (x, y) } := by
  subst hn
  exact h.put j x y

theorem RM.putRe {wr : World} {g n c : Nat} {vo : Value} (h : RM w v1 v2 wr (.slice (some ⟨g, 0, none⟩) n c) vo s) (hn : s.st.length = n) (j : Nat) (x y z : Int) (st0 : List (Int × Int)) (hj : j < n) (hl : st0.length = n) (hs : s.st = st0.set j (x, y)) :
    RM w v1 v2 (wr.setCell ⟨g, j * 2, none⟩ (.int .i64 z)) (.slice (some ⟨g, 0, none⟩) n c) vo { s with st := st0.set j (z, y) } := by
  have ho := h.own
  rw [hn] at ho
  obtain ⟨h1, h2⟩ := ho.stored (j * 2) (.int .i64 z)
  refine h.stack (vs' := .slice (some ⟨g, 0, none⟩) n c) h2 ?_ (.inl rfl)
  have e : insCells (st0.set j (z, y)) = (insCells s.st).set (j * 2) (.int .i64 z) := by
    rw [hs, insCells_set, insCells_set]
    apply List.ext_getElem?
    intro i
    by_cases e1 : i = j * 2 + 1
    · subst e1
      rw [List.getElem?_set_ne (by omega) (i := j * 2)]
      rw [List.getElem?_set_self (by rw [List.length_set, insCells_len]; omega), List.getElem?_set_self (by rw [List.length_set, insCells_len]; omega)]
    · by_cases e2 : i = j * 2
      · subst e2
        rw [List.getElem?_set_ne (by omega), List.getElem?_set_self (by rw [insCells_len]; omega), List.getElem?_set_self (by rw [List.length_set, List.length_set, insCells_len]; omega)]
      · rw [List.getElem?_set_ne (by omega), List.getElem?_set_ne (by omega), List.getElem?_set_ne (by omega), List.getElem?_set_ne (by omega), List.getElem?_set_ne (by omega)]
  rw [e, List.length_set, hl]
  exact h1

theorem radd_from {W : World} (a b c d p q : Int) (h : Hid (twoV 6 (a, b) (c, d) = (p, q))) (w : World) (hb : Hid (Below W.heap.size W w)) :
    Calls Tryz.prog 16 #[val a b, val c d] w fun e w' => e = .returned (val p q) ∧ Hid (Below W.heap.size W w') :=
  (refadd_any a b c d w).mono fun e w' ⟨he, hw⟩ => ⟨by
    have h1 := congrArg Prod.fst h.out
    have h2 := congrArg Prod.snd h.out
    rw [he]
    show Ending.returned (val (twoV 6 (a, b) (c, d)).1 (twoV 6 (a, b) (c, d)).2) = _
    rw [h1, h2], hid (hb.out.trans (hw.mono hb.out.size))⟩

set_option maxHeartbeats 4000000 in
theorem rop_add (h0 : 2 ≤ s.st.length) : Rop w v1 v2 x0 N1 T1 T1 6 a s (stepS 6 a (v1, v2) s) := by
  intro K2 K3 Q' A n cs Z vo act wr hn hZ h8 hfr HRM hK2
  obtain ⟨z1, z2, z3, z4, z5, z6⟩ := top_nums hZ.out (by rw [← hn.out]; omega) h8 (HRM.out.shape hn.out)
  obtain ⟨wi1, wi2⟩ := wrapI hZ.out h8
  have zz1 : 1 ≤ Z := by omega
  obtain ⟨g, rfl, hgl, hgf, ⟨t0, t1⟩, ht2⟩ := HRM.out.tops hn.out (by rw [← hn.out]; omega)
  obtain ⟨x, y, hxy⟩ := pair_of (p := topV s.st 1)
  rw [hxy] at t0 t1
  simp only at t0 t1
  have HXY := hid hxy
  clear hxy
  have HGL := hid hgl
  have HGF := hid hgf
  have hb0 : Hid (Below wr.heap.size wr wr.drew) := hid (Below.refl _ _).drew
  obtain ⟨y1, y2, y3, y4⟩ := two_nums hZ.out (by rw [← hn.out]; omega) h8
  have zz2 : 2 ≤ Z := by omega
  obtain ⟨t2, t3⟩ := ht2 (by rw [← hn.out]; omega)
  obtain ⟨x', y', hxy'⟩ := pair_of (p := topV s.st 2)
  rw [hxy'] at t2 t3
  simp only at t2 t3
  have HXY' := hid hxy'
  clear hxy'
  obtain ⟨p, q, hpq⟩ := pair_of (p := twoV 6 (x', y') (x, y))
  have HT := hid hpq
  clear hpq
  have HU := hid (And.intro t2 t3)
  obtain ⟨u, rfl⟩ := hfr.open_
  clear hfr
  conv => arg 2; whnf
  go_wp2_with fail
  go_region_law (first | (go_simp; go_at_call 16; (refine (radd_from (W := wr) x' y' x y p q HT _ ?_).mono ?_); assumption; rintro e w4 ⟨rfl, HB4⟩; have u2 := ((bcell HB4.out).1 _ _ HGL.out).trans HU.out.1; have u3 := ((bcell HB4.out).1 _ _ HGL.out).trans HU.out.2; have uf := fun j => ((bcell HB4.out).2 _ j HGL.out).trans (HGF.out j)))
  all_goals
    go_wp2_with fail
    refine NXr.mk ⟨rfl, rfl, rfl, rfl, rfl, rfl, rfl, rfl, rfl, rfl, rfl, rfl, rfl⟩ (hid ((((HRM.out.below HB4.out).put' hn.out (n - 2) p q).cut' (by rw [List.length_set]; exact hn.out) (n - 1) (by omega)).to ?_ rfl rfl rfl))
    show (s.st.set (n - 2) (p, q)).take (n - 1) = cutV s.st 2 ++ [twoV 6 (topV s.st 2) (topV s.st 1)]
    rw [eff_two hn.out (by rw [← hn.out]; exact h0), HXY.out, HXY'.out, HT.out]

theorem rsub_from {W : World} (a b c d p q : Int) (h : Hid (twoV 7 (a, b) (c, d) = (p, q))) (w : World) (hb : Hid (Below W.heap.size W w)) :
    Calls Tryz.prog 17 #[val a b, val c d] w fun e w' => e = .returned (val p q) ∧ Hid (Below W.heap.size W w') :=
  (refsub_any a b c d w).mono fun e w' ⟨he, hw⟩ => ⟨by
    have h1 := congrArg Prod.fst h.out
    have h2 := congrArg Prod.snd h.out
    rw [he]
    show Ending.returned (val (twoV 7 (a, b) (c, d)).1 (twoV 7 (a, b) (c, d)).2) = _
    rw [h1, h2], hid (hb.out.trans (hw.mono hb.out.size))⟩

set_option maxHeartbeats 4000000 in
theorem rop_sub (h0 : 2 ≤ s.st.length) : Rop w v1 v2 x0 N1 T1 T1 7 a s (stepS 7 a (v1, v2) s) := by
  intro K2 K3 Q' A n cs Z vo act wr hn hZ h8 hfr HRM hK2
  obtain ⟨z1, z2, z3, z4, z5, z6⟩ := top_nums hZ.out (by rw [← hn.out]; omega) h8 (HRM.out.shape hn.out)
  obtain ⟨wi1, wi2⟩ := wrapI hZ.out h8
  have zz1 : 1 ≤ Z := by omega
  obtain ⟨g, rfl, hgl, hgf, ⟨t0, t1⟩, ht2⟩ := HRM.out.tops hn.out (by rw [← hn.out]; omega)
  obtain ⟨x, y, hxy⟩ := pair_of (p := topV s.st 1)
  rw [hxy] at t0 t1
  simp only at t0 t1
  have HXY := hid hxy
  clear hxy
  have HGL := hid hgl
  have HGF := hid hgf
  have hb0 : Hid (Below wr.heap.size wr wr.drew) := hid (Below.refl _ _).drew
  obtain ⟨y1, y2, y3, y4⟩ := two_nums hZ.out (by rw [← hn.out]; omega) h8
  have zz2 : 2 ≤ Z := by omega
  obtain ⟨t2, t3⟩ := ht2 (by rw [← hn.out]; omega)
  obtain ⟨x', y', hxy'⟩ := pair_of (p := topV s.st 2)
  rw [hxy'] at t2 t3
  simp only at t2 t3
  have HXY' := hid hxy'
  clear hxy'
  obtain ⟨p, q, hpq⟩ := pair_of (p := twoV 7 (x', y') (x, y))
  have HT := hid hpq
  clear hpq
  have HU := hid (And.intro t2 t3)
  obtain ⟨u, rfl⟩ := hfr.open_
  clear hfr
  conv => arg 2; whnf
  go_wp2_with fail
  go_region_law (first | (go_simp; go_at_call 17; (refine (rsub_from (W := wr) x' y' x y p q HT _ ?_).mono ?_); assumption; rintro e w4 ⟨rfl, HB4⟩; have u2 := ((bcell HB4.out).1 _ _ HGL.out).trans HU.out.1; have u3 := ((bcell HB4.out).1 _ _ HGL.out).trans HU.out.2; have uf := fun j => ((bcell HB4.out).2 _ j HGL.out).trans (HGF.out j)))
  all_goals
    go_wp2_with fail
    refine NXr.mk ⟨rfl, rfl, rfl, rfl, rfl, rfl, rfl, rfl, rfl, rfl, rfl, rfl, rfl⟩ (hid ((((HRM.out.below HB4.out).put' hn.out (n - 2) p q).cut' (by rw [List.length_set]; exact hn.out) (n - 1) (by omega)).to ?_ rfl rfl rfl))
    show (s.st.set (n - 2) (p, q)).take (n - 1) = cutV s.st 2 ++ [twoV 7 (topV s.st 2) (topV s.st 1)]
    rw [eff_two hn.out (by rw [← hn.out]; exact h0), HXY.out, HXY'.out, HT.out]

theorem rmul_from {W : World} (a b c d p q : Int) (h : Hid (twoV 8 (a, b) (c, d) = (p, q))) (w : World) (hb : Hid (Below W.heap.size W w)) :
    Calls Tryz.prog 18 #[val a b, val c d] w fun e w' => e = .returned (val p q) ∧ Hid (Below W.heap.size W w') :=
  (refmul_any a b c d w).mono fun e w' ⟨he, hw⟩ => ⟨by
    have h1 := congrArg Prod.fst h.out
    have h2 := congrArg Prod.snd h.out
    rw [he]
    show Ending.returned (val (twoV 8 (a, b) (c, d)).1 (twoV 8 (a, b) (c, d)).2) = _
    rw [h1, h2], hid (hb.out.trans (hw.mono hb.out.size))⟩

set_option maxHeartbeats 4000000 in
theorem rop_mul (h0 : 2 ≤ s.st.length) : Rop w v1 v2 x0 N1 T1 T1 8 a s (stepS 8 a (v1, v2) s) := by
  intro K2 K3 Q' A n cs Z vo act wr hn hZ h8 hfr HRM hK2
  obtain ⟨z1, z2, z3, z4, z5, z6⟩ := top_nums hZ.out (by rw [← hn.out]; omega) h8 (HRM.out.shape hn.out)
  obtain ⟨wi1, wi2⟩ := wrapI hZ.out h8
  have zz1 : 1 ≤ Z := by omega
  obtain ⟨g, rfl, hgl, hgf, ⟨t0, t1⟩, ht2⟩ := HRM.out.tops hn.out (by rw [← hn.out]; omega)
  obtain ⟨x, y, hxy⟩ := pair_of (p := topV s.st 1)
  rw [hxy] at t0 t1
  simp only at t0 t1
  have HXY := hid hxy
  clear hxy
  have HGL := hid hgl
  have HGF := hid hgf
  have hb0 : Hid (Below wr.heap.size wr wr.drew) := hid (Below.refl _ _).drew
  obtain ⟨y1, y2, y3, y4⟩ := two_nums hZ.out (by rw [← hn.out]; omega) h8
  have zz2 : 2 ≤ Z := by omega
  obtain ⟨t2, t3⟩ := ht2 (by rw [← hn.out]; omega)
  obtain ⟨x', y', hxy'⟩ := pair_of (p := topV s.st 2)
  rw [hxy'] at t2 t3
  simp only at t2 t3
  have HXY' := hid hxy'
  clear hxy'
  obtain ⟨p, q, hpq⟩ := pair_of (p := twoV 8 (x', y') (x, y))
  have HT := hid hpq
  clear hpq
  have HU := hid (And.intro t2 t3)
  obtain ⟨u, rfl⟩ := hfr.open_
  clear hfr
  conv => arg 2; whnf
  go_wp2_with fail
  go_region_law (first | (go_simp; go_at_call 18; (refine (rmul_from (W := wr) x' y' x y p q HT _ ?_).mono ?_); assumption; rintro e w4 ⟨rfl, HB4⟩; have u2 := ((bcell HB4.out).1 _ _ HGL.out).trans HU.out.1; have u3 := ((bcell HB4.out).1 _ _ HGL.out).trans HU.out.2; have uf := fun j => ((bcell HB4.out).2 _ j HGL.out).trans (HGF.out j)))
  all_goals
    go_wp2_with fail
    refine NXr.mk ⟨rfl, rfl, rfl, rfl, rfl, rfl, rfl, rfl, rfl, rfl, rfl, rfl, rfl⟩ (hid ((((HRM.out.below HB4.out).put' hn.out (n - 2) p q).cut' (by rw [List.length_set]; exact hn.out) (n - 1) (by omega)).to ?_ rfl rfl rfl))
    show (s.st.set (n - 2) (p, q)).take (n - 1) = cutV s.st 2 ++ [twoV 8 (topV s.st 2) (topV s.st 1)]
    rw [eff_two hn.out (by rw [← hn.out]; exact h0), HXY.out, HXY'.out, HT.out]

end

end Go.Proofs.YtfohdoahddommaaGreatDoor

namespace Go.Proofs.YtfohdoahddommaaGreatDoor
open Go.RowKit Go.Lib
set_option linter.unusedVariables false
set_option maxRecDepth 100000

section
variable {w : World} {v1 v2 : Int} {x0 : Value} {N1 T1 : Int} {a : Int} {s : VmS}

theorem rof_from {W : World} (m n p q : Int) (h1 : Hid (into m = p)) (h2 : Hid (into n = q)) (w : World) (hb : Hid (Below W.heap.size W w)) :
    Calls Tryz.prog 15 #[.int .i64 m, .int .i64 n] w fun e w' => e = .returned (val p q) ∧ Hid (Below W.heap.size W w') :=
  (refof_from m n w hb).mono fun e w' ⟨he, hw⟩ => ⟨by rw [he, h1.out, h2.out], hw⟩

theorem neg_small {y : Int} (h : into y = y) : wrap64 (-y) = -y := by
  have := into_ge y; have := into_le y
  rw [h] at *
  unfold wrap64; omega

set_option maxHeartbeats 4000000 in
theorem rop_conj (h0 : 1 ≤ s.st.length) (hr : Rgt (topV s.st 1)) : Rop w v1 v2 x0 N1 T1 T1 9 a s (stepS 9 a (v1, v2) s) := by
  intro K2 K3 Q' A n cs Z vo act wr hn hZ h8 hfr HRM hK2
  obtain ⟨z1, z2, z3, z4, z5, z6⟩ := top_nums hZ.out (by rw [← hn.out]; omega) h8 (HRM.out.shape hn.out)
  obtain ⟨wi1, wi2⟩ := wrapI hZ.out h8
  have zz1 : 1 ≤ Z := by omega
  obtain ⟨g, rfl, hgl, hgf, ⟨t0, t1⟩, ht2⟩ := HRM.out.tops hn.out (by rw [← hn.out]; omega)
  obtain ⟨x, y, hxy⟩ := pair_of (p := topV s.st 1)
  rw [hxy] at t0 t1
  simp only at t0 t1
  have HXY := hid hxy
  clear hxy
  have HGL := hid hgl
  have HGF := hid hgf
  have hb0 : Hid (Below wr.heap.size wr wr.drew) := hid (Below.refl _ _).drew
  rw [HXY.out] at hr
  have hw3 := neg_small hr.2
  have hw4 : IntKind.i64.wrap (-y) = -y := by rw [IntKind.wrap_i64]; have := hw3; unfold wrap64 at this; exact this
  obtain ⟨p, q, hpq⟩ := pair_of (p := conjV (x, y))
  have HT := hid hpq
  have H1 : Hid (into x = p) := hid (by have := congrArg Prod.fst hpq; unfold conjV at this; simp only at this; exact this)
  have H2 : Hid (into (-y) = q) := hid (by have := congrArg Prod.snd hpq; unfold conjV at this; simp only [hr.2] at this; exact this)
  clear hpq hr ht2
  have HU := hid (And.intro t0 t1)
  obtain ⟨u, rfl⟩ := hfr.open_
  clear hfr
  conv => arg 2; whnf
  go_wp2_with fail
  go_region_law (first | (go_simp; go_at_call 15; (refine (rof_from (W := wr) _ _ p q H1 H2 _ ?_).mono ?_); assumption; rintro e w4 ⟨rfl, HB4⟩; have u2 := ((bcell HB4.out).1 _ _ HGL.out).trans HU.out.1; have u3 := ((bcell HB4.out).1 _ _ HGL.out).trans HU.out.2; have uf := fun j => ((bcell HB4.out).2 _ j HGL.out).trans (HGF.out j)))
  all_goals
    go_wp2_with fail
    refine NXr.mk ⟨rfl, rfl, rfl, rfl, rfl, rfl, rfl, rfl, rfl, rfl, rfl, rfl, rfl⟩ (hid (((HRM.out.below HB4.out).put' hn.out (n - 1) p q).to ?_ rfl rfl rfl))
    show s.st.set (n - 1) (p, q) = cutV s.st 1 ++ [conjV (topV s.st 1)]
    rw [eff_one hn.out (by rw [← hn.out]; exact h0), HXY.out, HT.out]

set_option maxHeartbeats 4000000 in
theorem rop_turn (h0 : 1 ≤ s.st.length) (hr : Rgt (topV s.st 1)) : Rop w v1 v2 x0 N1 T1 T1 10 a s (stepS 10 a (v1, v2) s) := by
  intro K2 K3 Q' A n cs Z vo act wr hn hZ h8 hfr HRM hK2
  obtain ⟨z1, z2, z3, z4, z5, z6⟩ := top_nums hZ.out (by rw [← hn.out]; omega) h8 (HRM.out.shape hn.out)
  obtain ⟨wi1, wi2⟩ := wrapI hZ.out h8
  have zz1 : 1 ≤ Z := by omega
  obtain ⟨g, rfl, hgl, hgf, ⟨t0, t1⟩, ht2⟩ := HRM.out.tops hn.out (by rw [← hn.out]; omega)
  obtain ⟨x, y, hxy⟩ := pair_of (p := topV s.st 1)
  rw [hxy] at t0 t1
  simp only at t0 t1
  have HXY := hid hxy
  clear hxy
  have HGL := hid hgl
  have HGF := hid hgf
  have hb0 : Hid (Below wr.heap.size wr wr.drew) := hid (Below.refl _ _).drew
  rw [HXY.out] at hr
  have hw3 := neg_small hr.2
  have hw4 : IntKind.i64.wrap (-y) = -y := by rw [IntKind.wrap_i64]; have := hw3; unfold wrap64 at this; exact this
  obtain ⟨p, q, hpq⟩ := pair_of (p := turnV (x, y))
  have HT := hid hpq
  have H1 : Hid (into (-y) = p) := hid (by have := congrArg Prod.fst hpq; unfold turnV at this; simp only [hr.2] at this; exact this)
  have H2 : Hid (into x = q) := hid (by have := congrArg Prod.snd hpq; unfold turnV at this; simp only at this; exact this)
  clear hpq hr ht2
  have HU := hid (And.intro t0 t1)
  obtain ⟨u, rfl⟩ := hfr.open_
  clear hfr
  conv => arg 2; whnf
  go_wp2_with fail
  go_region_law (first | (go_simp; go_at_call 15; (refine (rof_from (W := wr) _ _ p q H1 H2 _ ?_).mono ?_); assumption; rintro e w4 ⟨rfl, HB4⟩; have u2 := ((bcell HB4.out).1 _ _ HGL.out).trans HU.out.1; have u3 := ((bcell HB4.out).1 _ _ HGL.out).trans HU.out.2; have uf := fun j => ((bcell HB4.out).2 _ j HGL.out).trans (HGF.out j)))
  all_goals
    go_wp2_with fail
    refine NXr.mk ⟨rfl, rfl, rfl, rfl, rfl, rfl, rfl, rfl, rfl, rfl, rfl, rfl, rfl⟩ (hid (((HRM.out.below HB4.out).put' hn.out (n - 1) p q).to ?_ rfl rfl rfl))
    show s.st.set (n - 1) (p, q) = cutV s.st 1 ++ [turnV (topV s.st 1)]
    rw [eff_one hn.out (by rw [← hn.out]; exact h0), HXY.out, HT.out]

set_option maxHeartbeats 4000000 in
theorem rop_lt (h0 : 2 ≤ s.st.length) (hr : Rgt (topV s.st 1)) (hr2 : Rgt (topV s.st 2)) : Rop w v1 v2 x0 N1 T1 T1 17 a s (stepS 17 a (v1, v2) s) := by
  intro K2 K3 Q' A n cs Z vo act wr hn hZ h8 hfr HRM hK2
  obtain ⟨z1, z2, z3, z4, z5, z6⟩ := top_nums hZ.out (by rw [← hn.out]; omega) h8 (HRM.out.shape hn.out)
  obtain ⟨wi1, wi2⟩ := wrapI hZ.out h8
  have zz1 : 1 ≤ Z := by omega
  obtain ⟨g, rfl, hgl, hgf, ⟨t0, t1⟩, ht2⟩ := HRM.out.tops hn.out (by rw [← hn.out]; omega)
  obtain ⟨x, y, hxy⟩ := pair_of (p := topV s.st 1)
  rw [hxy] at t0 t1
  simp only at t0 t1
  have HXY := hid hxy
  clear hxy
  have HGL := hid hgl
  have HGF := hid hgf
  have hb0 : Hid (Below wr.heap.size wr wr.drew) := hid (Below.refl _ _).drew
  obtain ⟨y1, y2, y3, y4⟩ := two_nums hZ.out (by rw [← hn.out]; omega) h8
  have zz2 : 2 ≤ Z := by omega
  obtain ⟨t2, t3⟩ := ht2 (by rw [← hn.out]; omega)
  obtain ⟨x', y', hxy'⟩ := pair_of (p := topV s.st 2)
  rw [hxy'] at t2 t3
  simp only at t2 t3
  have HXY' := hid hxy'
  clear hxy'
  have HL : Hid (lessV (topV s.st 2) (topV s.st 1) = if x' < x then (1, 0) else (0, 0)) := hid (by
    rw [HXY.out] at hr ⊢
    rw [HXY'.out] at hr2 ⊢
    unfold lessV
    rw [show into (x', y').1 = x' from hr2.1, show into (x, y).1 = x from hr.1])
  clear hr hr2
  obtain ⟨u, rfl⟩ := hfr.open_
  clear hfr
  conv => arg 2; whnf
  go_wp2_with fail
  go_quiet (fail)
  have HR2 := hid (HRM.out.below (below_drewN' (Below.refl _ _) nq))
  have uf : ∀ j, (wr.drewN nq).frozen? ⟨g, j, none⟩ = false := HGF.out
  have u2 : (wr.drewN nq).cell? ⟨g, (n - 2) * 2, none⟩ = some (.int .i64 x') := t2
  have u3 : (wr.drewN nq).cell? ⟨g, (n - 2) * 2 + 1, none⟩ = some (.int .i64 y') := t3
  clear t0 t1 t2 t3 hgf hgl hb0 HGL HGF HRM
  generalize wr.drewN nq = wr2 at HR2 u2 u3 uf ⊢
  by_cases hlt : x' < x
  · have HLT := hid hlt
    go_wp2_with fail
    refine NXr.mk ⟨rfl, rfl, rfl, rfl, rfl, rfl, rfl, rfl, rfl, rfl, rfl, rfl, rfl⟩ (hid (((((HR2.out.put' hn.out (n - 2) 0 0).putRe (by rw [List.length_set]; exact hn.out) (n - 2) 0 0 1 s.st (by have := hn.out; omega) hn.out rfl).cut' (by rw [List.length_set]; exact hn.out) (n - 1) (by omega)).to ?_ rfl rfl rfl)))
    show (s.st.set (n - 2) (1, 0)).take (n - 1) = cutV s.st 2 ++ [lessV (topV s.st 2) (topV s.st 1)]
    rw [eff_two hn.out (by rw [← hn.out]; exact h0), HL.out, if_pos HLT.out]
  · have HLT := hid hlt
    go_wp2_with fail
    refine NXr.mk ⟨rfl, rfl, rfl, rfl, rfl, rfl, rfl, rfl, rfl, rfl, rfl, rfl, rfl⟩ (hid ((((HR2.out.put' hn.out (n - 2) 0 0).cut' (by rw [List.length_set]; exact hn.out) (n - 1) (by omega)).to ?_ rfl rfl rfl)))
    show (s.st.set (n - 2) (0, 0)).take (n - 1) = cutV s.st 2 ++ [lessV (topV s.st 2) (topV s.st 1)]
    rw [eff_two hn.out (by rw [← hn.out]; exact h0), HL.out, if_neg (by have := HLT.out; omega)]

set_option maxHeartbeats 4000000 in
theorem rop_swap (h0 : 2 ≤ s.st.length) : Rop w v1 v2 x0 N1 T1 T1 12 a s (stepS 12 a (v1, v2) s) := by
  intro K2 K3 Q' A n cs Z vo act wr hn hZ h8 hfr HRM hK2
  obtain ⟨z1, z2, z3, z4, z5, z6⟩ := top_nums hZ.out (by rw [← hn.out]; omega) h8 (HRM.out.shape hn.out)
  obtain ⟨wi1, wi2⟩ := wrapI hZ.out h8
  have zz1 : 1 ≤ Z := by omega
  obtain ⟨g, rfl, hgl, hgf, ⟨t0, t1⟩, ht2⟩ := HRM.out.tops hn.out (by rw [← hn.out]; omega)
  obtain ⟨x, y, hxy⟩ := pair_of (p := topV s.st 1)
  rw [hxy] at t0 t1
  simp only at t0 t1
  have HXY := hid hxy
  clear hxy
  have HGL := hid hgl
  have HGF := hid hgf
  have hb0 : Hid (Below wr.heap.size wr wr.drew) := hid (Below.refl _ _).drew
  obtain ⟨y1, y2, y3, y4⟩ := two_nums hZ.out (by rw [← hn.out]; omega) h8
  have zz2 : 2 ≤ Z := by omega
  obtain ⟨t2, t3⟩ := ht2 (by rw [← hn.out]; omega)
  obtain ⟨x', y', hxy'⟩ := pair_of (p := topV s.st 2)
  rw [hxy'] at t2 t3
  simp only at t2 t3
  have HXY' := hid hxy'
  clear hxy'
  obtain ⟨u, rfl⟩ := hfr.open_
  clear hfr
  conv => arg 2; whnf
  go_wp2_with fail
  go_region_law (fail)
  all_goals
    go_wp2_with fail
    refine NXr.mk ⟨rfl, rfl, rfl, rfl, rfl, rfl, rfl, rfl, rfl, rfl, rfl, rfl, rfl⟩ (hid ((((HRM.out.put' hn.out (n - 2) x y).put' (by rw [List.length_set]; exact hn.out) (n - 1) x' y').below ((Below.refl _ _).drew)).to ?_ rfl rfl rfl))
    show (s.st.set (n - 2) (x, y)).set (n - 1) (x', y') = cutV s.st 2 ++ [topV s.st 1, topV s.st 2]
    rw [eff_swap hn.out (by rw [← hn.out]; exact h0), HXY.out, HXY'.out]

end

end Go.Proofs.YtfohdoahddommaaGreatDoor

namespace Go.Proofs.YtfohdoahddommaaGreatDoor
open Go.RowKit Go.Lib
set_option linter.unusedVariables false
set_option maxRecDepth 100000

/-- What the document's Run answers. -/
def RunPost (w : World) (F : VmS) (e : Ending) (w' : World) : Prop :=
  ∃ A c, e = .returned (.tuple #[.slice A F.out.length c, .agg #[.int .i64 F.c0.1, .int .i64 F.c0.2, .int .i64 F.c1.1, .int .i64 F.c1.2], .int .i64 F.n]) ∧ w'.ownsRow (w.heap.size + 1 + 1 + 1) 24 2 (.slice A F.out.length c) F.out.length (insCells F.out) ∧ Below w.heap.size w w'

/-- A round's operation, whatever it is: it goes on as it should. -/
theorem rop_any (w : World) (v1 v2 : Int) (x0 : Value) (l : List (Int × Int)) (F : VmS) (gk t : Nat) (T T1 N N1 o a : Int) (s : VmS) (hf : fitsL l = true) (HT : Hid ((t : Int) = T)) (HN : Hid ((s.n : Int) = N)) (HS : Hid (t ≤ 100 ∧ s.n ≤ t)) (HLT : Hid (t < l.length)) (hi : Hid (rightI (o, a) = true))
    (HNX : Hid (VmA l 0 (nxt t o a s) (stepS o a (v1, v2) s))) (HFN : Hid (fin l (v1, v2) (nxt t o a s) (stepS o a (v1, v2) s) = F)) (hgk : l.length - t ≤ gk) (hT1 : T1 = T + 1) (hN1 : N1 = N + 1) (h0 : o ≠ 0) (htk : tkI o ≤ s.st.length) (ho8 : s.out.length ≤ 100) (hr : VmR s) :
    ∃ T2, Rop w v1 v2 x0 N1 T1 T2 o a s (stepS o a (v1, v2) s) ∧ ∀ act wr, NXr w v1 v2 x0 N1 T2 (stepS o a (v1, v2) s) act wr → ∃ m, m < gk ∧ RIr w v1 v2 x0 l F m act wr := by
  subst hT1; subst hN1
  obtain ⟨b0, b1, b2, b3⟩ := rightI_bounds hi.out
  simp only at b0 b1 b2 b3
  have h1 : 1 ≤ tkI o → 1 ≤ s.st.length := fun q => by omega
  have h2 : 2 ≤ tkI o → 2 ≤ s.st.length := fun q => by omega
  have r1 := rg_top hr.st 1
  have r2 := rg_top hr.st 2
  by_cases hj : o = 16 ∨ (o = 15 ∧ topV s.st 1 = (0, 0))
  · obtain ⟨a0, a1⟩ := jump_small hi.out (by omega)
    refine ⟨T + 1 + a, ?_, fun act wr hx => RIr.next HT HN HS HLT hf hi HNX HFN (nxt_far HT hj a0) hx hgk⟩
    have hw := wrap_jump HT.out (Nat.le_trans HS.out.1 (by decide)) a0 a1
    rcases hj with rfl | ⟨rfl, hz⟩
    · exact rop_jmp hw
    · exact rop_jz_far (h1 (by decide)) hz hw
  · refine ⟨T + 1, ?_, fun act wr hx => RIr.next HT HN HS HLT hf hi HNX HFN (nxt_on HT hj) hx hgk⟩
    have hc : o = 15 ∨ o = 1 ∨ o = 2 ∨ o = 3 ∨ o = 4 ∨ o = 5 ∨ o = 9 ∨ o = 10 ∨ o = 13 ∨ o = 14 ∨ o = 11 ∨ o = 12 ∨ o = 6 ∨ o = 7 ∨ o = 8 ∨ o = 17 := by omega
    have ha : o = 4 ∨ o = 5 → a = 0 ∨ a = 1 := by
      intro q
      have hi' := hi.out
      unfold rightI at hi'
      simp only [Bool.and_eq_true, decide_eq_true_eq] at hi'
      have l0 : loI o = 0 := by unfold loI; rw [if_neg (by omega), if_neg (by omega)]
      have l1 : hiI o = 1 := by unfold hiI; rw [if_neg (by omega), if_pos (by omega)]
      omega
    rcases hc with rfl | rfl | rfl | rfl | rfl | rfl | rfl | rfl | rfl | rfl | rfl | rfl | rfl | rfl | rfl | rfl
    · obtain ⟨a0, a1⟩ := jump_small hi.out (.inl rfl)
      exact rop_jz_on (h1 (by decide)) (fun q => hj (.inr ⟨rfl, q⟩)) (wrap_jump HT.out (Nat.le_trans HS.out.1 (by decide)) a0 a1)
    · exact rop_push
    · exact rop_pushi
    · exact rop_in
    · rcases ha (.inl rfl) with rfl | rfl
      · exact rop_load0
      · exact rop_load1
    · rcases ha (.inr rfl) with rfl | rfl
      · exact rop_store0 (h1 (by decide))
      · exact rop_store1 (h1 (by decide))
    · exact rop_conj (h1 (by decide)) r1
    · exact rop_turn (h1 (by decide)) r1
    · exact rop_drop (h1 (by decide))
    · exact rop_emit (h1 (by decide)) ho8
    · exact rop_dup (h1 (by decide))
    · exact rop_swap (h2 (by decide))
    · exact rop_add (h2 (by decide))
    · exact rop_sub (h2 (by decide))
    · exact rop_mul (h2 (by decide))
    · exact rop_lt (h2 (by decide)) r1 r2

theorem runpost {w wr w' : World} {v1 v2 : Int} {vs : Value} {F : VmS} {Ao : Option Addr} {co : Nat} {N : Int} (h : Hid (RM w v1 v2 wr vs (.slice Ao F.out.length co) F)) (hn : Hid ((F.n : Int) = N)) (hg : wr.grownBy w' (some (w.heap.size + 1 + 1))) :
    RunPost w F (.returned (.tuple #[.slice Ao F.out.length co, .agg #[.int .i64 F.c0.1, .int .i64 F.c0.2, .int .i64 F.c1.1, .int .i64 F.c1.2], .int .i64 N])) w' :=
  ⟨Ao, co, by rw [hn.out], h.out.ono.kept hg (own_ne h.out.ono (by omega)), h.out.bel.grown hg h.out.bel.size (fun k hk => by injection hk with hk; omega)⟩

set_option maxHeartbeats 4000000 in
theorem refrun_any (v : Value) (l : List (Int × Int)) (hf : fitsL l = true) (hg : Good l) (x y a b c d : Int) (hx : Rgt (x, y)) (hc0 : Rgt (a, b)) (hc1 : Rgt (c, d)) (w : World) (hv : SlV w w.heap.size v l) (F : VmS) (hF : Hid (runS l (x, y) ⟨[], [], (a, b), (c, d), 0⟩ = F)) :
    Calls Tryz.prog 8 #[v, val x y, .agg #[.int .i64 a, .int .i64 b, .int .i64 c, .int .i64 d]] w (RunPost w F) := by
  have HR := hid (And.intro hf (And.intro hg hx))
  obtain ⟨A0, cc, rfl, hcc, hA⟩ := hv
  have HA := hid hA
  obtain ⟨W, hW, HM⟩ := run_start w x y a b c d 24 25
  have HVA : Hid (VmA l 0 0 ⟨[], [], (a, b), (c, d), 0⟩) := hid (VmA.start (s := ⟨[], [], (a, b), (c, d), 0⟩) ⟨by simp, by simp, hc0, hc1⟩)
  have HF0 : Hid (fin l (x, y) 0 ⟨[], [], (a, b), (c, d), 0⟩ = F) := hF
  clear hf hg hx hc0 hc1 hA hF
  go_enter Tryz.func8, Tryz.ntmps8
  go_wp2_with fail
  clear hW
  refine wp_loop_ghost_k (RIr w x y (.slice A0 l.length cc) l F) 200 ⟨0, 0, 0, _, _, _, _, _, _, ⟨rfl, rfl, rfl, rfl, rfl, rfl, rfl, rfl, rfl, rfl, rfl, rfl, rfl⟩, hid rfl, hid rfl, hid ⟨Nat.zero_le _, Nat.zero_le _⟩, HVA, HF0, HM, by have := ((fitsL_iff l).1 HR.out.1).1; omega⟩ ?_
  clear HVA HF0 HM
  intro gk act wr hinv J K2 hJ hK
  obtain ⟨t, T, N, s, vs, vo, x13, x14, x15, hfr, HT, HN, HS, HVA, HFF, HRM, hgk⟩ := hinv
  by_cases hlt : t < l.length
  · obtain ⟨b1, o1, rfl, hb1, hcell⟩ := HA.out (by omega)
    obtain ⟨ca, cb⟩ := hcell t hlt
    obtain ⟨o, ar, hoa⟩ := pair_of (p := l.getD t (0, 0))
    rw [hoa] at ca cb
    simp only at ca cb
    have HO : Hid (opAt l t = o ∧ arAt l t = ar) := hid (by unfold opAt arAt; rw [hoa]; exact ⟨rfl, rfl⟩)
    have HIR : Hid (rightI (o, ar) = true) := hid (right_at HR.out.1 hlt hoa)
    have ca' := (HRM.out.bel.cell (p := ⟨b1, o1 + t * 2, none⟩) hb1).trans ca
    have cb' := (HRM.out.bel.cell (p := ⟨b1, o1 + t * 2 + 1, none⟩) hb1).trans cb
    obtain ⟨A, cs, rfl⟩ := own_form HRM.out.own
    have hw1 := wrap_succ HT.out (Nat.le_trans HS.out.1 (by decide))
    have hw2 := wrap_succ HN.out (Nat.le_trans HS.out.2 (Nat.le_trans HS.out.1 (by decide)))
    obtain ⟨hT0, hT1, hT2, hT3⟩ := at_place HT.out hlt
    have HLT := hid hlt
    obtain ⟨u, rfl⟩ := hfr.open_
    clear hfr ca cb hcell hoa hlt
    go_upto_region 6 with fail
    go_quiet (fail)
    have HRM2 := hid (HRM.out.below (below_drewN' (Below.refl _ _) nq))
    generalize wr.drewN nq = wr2 at HRM2 ⊢
    clear ca' cb' HRM
    have hsl : s.st.length ≤ 100 := by have := (HVA.out.fine HR.out.2.1 HLT.out).2.1; omega
    by_cases h0 : o = 0
    · subst h0
      have hfin := fin_halt (v := (x, y)) (s := s) HLT.out HO.out.1
      rw [HFF.out] at hfin
      have HFI := hid hfin
      clear hfin
      have HNF : Hid ((F.n : Int) = N + 1) := hid (by rw [HFI.out]; have := HN.out; show ((s.n + 1 : Nat) : Int) = N + 1; omega)
      have HRF : Hid (RM w x y wr2 (.slice A s.st.length cs) vo F) := hid (by rw [HFI.out]; exact HRM2.out.to rfl rfl rfl rfl)
      have HFE := hid HFI.out
      obtain ⟨Ao, co, rfl⟩ := own_form HRM2.out.ono
      have q0 := HRM2.out.box.q0; have q1 := HRM2.out.box.q1; have q2 := HRM2.out.box.q2; have q3 := HRM2.out.box.q3
      have r0 := HRM2.out.res.q0; have r1 := HRM2.out.res.q1; have r2 := HRM2.out.res.q2; have r3 := HRM2.out.res.q3
      have rf := HRM2.out.res.f
      have rl := HRM2.out.res.lt
      simp only at r0 r1 r2 r3
      obtain rfl : F = { s with n := s.n + 1 } := HFE.out
      clear HFI HFE
      go_wp2_with fail
      go_region_law (fail)
      all_goals
        go_wp2_with fail
        refine bodyPost_ret (v := .tuple #[.slice Ao s.out.length co, .agg #[.int .i64 s.c0.1, .int .i64 s.c0.2, .int .i64 s.c1.1, .int .i64 s.c1.2], .int .i64 (N + 1)]) (by simp [results, Tryz.results8, go_sem, r0, r1, r2, r3]) rfl ?_
        exact runpost HRF HNF (turned_drew (HRF.out.res.put s.c0.1 s.c0.2 s.c1.1 s.c1.2).2)
    · have e0 : (o == 0) = false := by simpa using h0
      obtain ⟨T2, hrop, hnx⟩ := rop_any w x y (.slice (some ⟨b1, o1, none⟩) l.length cc) l F gk t T (wrap64 (T + 1)) N (wrap64 (N + 1)) o ar s HR.out.1 HT HN HS HLT HIR (hid (by have := HVA.out.next HR.out.2.1 HR.out.1 HR.out.2.2 HLT.out (by rw [HO.out.1]; exact h0); rw [HO.out.1, HO.out.2] at this; exact this)) (hid (by rw [← HFF.out, fin_go HLT.out (by rw [HO.out.1]; exact h0), HO.out.1, HO.out.2])) hgk hw1 hw2 h0 (by have := (HVA.out.fine HR.out.2.1 HLT.out).1; rw [HO.out.1] at this; exact this) (by have := (HVA.out.fine HR.out.2.1 HLT.out).2.2.em; omega) HVA.out.r
      have HROP := hid hrop
      have HNXR := hid hnx
      have HK2 : Hid (∀ a' w', NXr w x y (.slice (some ⟨b1, o1, none⟩) l.length cc) (wrap64 (N + 1)) T2 (stepS o ar (x, y) s) a' w' → K2 a' w') := hid (fun a' w' h => by
        obtain ⟨m, hm, hI⟩ := HNXR.out a' w' h
        exact hK a' w' (Handed.intro m hm (hJ _ _ _ hI)))
      clear hrop hnx hw1 hw2 hJ hK
      go_upto_region 10 with fail
      iterate 14 go_step
      refine HROP.out K2 _ _ A s.st.length cs _ vo _ wr2 (hid rfl) (hid rfl) (by omega) ?_ HRM2 HK2.out
      exact ⟨rfl, rfl, rfl, rfl, rfl, rfl, rfl, rfl, rfl, rfl, rfl, rfl, rfl⟩
  · have hln := Nat.le_of_not_lt hlt
    have hT4 := at_end HT.out hln
    obtain rfl : s = F := by rw [← HFF.out, fin_end hln]
    have HNF : Hid ((s.n : Int) = N) := HN
    have HRF := HRM
    obtain ⟨u, rfl⟩ := hfr.open_
    clear hfr
    obtain ⟨Ao, co, rfl⟩ := own_form HRM.out.ono
    have q0 := HRM.out.box.q0; have q1 := HRM.out.box.q1; have q2 := HRM.out.box.q2; have q3 := HRM.out.box.q3
    have r0 := HRM.out.res.q0; have r1 := HRM.out.res.q1; have r2 := HRM.out.res.q2; have r3 := HRM.out.res.q3
    have rf := HRM.out.res.f
    have rl := HRM.out.res.lt
    simp only at r0 r1 r2 r3
    go_wp2_with fail
    go_region_law (fail)
    all_goals
      go_wp2_with fail
      refine bodyPost_ret (v := .tuple #[.slice Ao s.out.length co, .agg #[.int .i64 s.c0.1, .int .i64 s.c0.2, .int .i64 s.c1.1, .int .i64 s.c1.2], .int .i64 (N)]) (by simp [results, Tryz.results8, go_sem, r0, r1, r2, r3]) rfl ?_
      exact runpost HRF HNF (turned_drew (HRF.out.res.put s.c0.1 s.c0.2 s.c1.1 s.c1.2).2)

end Go.Proofs.YtfohdoahddommaaGreatDoor

namespace Go.Proofs.YtfohdoahddommaaGreatDoor
open Go.RowKit Go.Lib
set_option linter.unusedVariables false
set_option maxRecDepth 100000

theorem cell_box2 (w : World) (a b c d : Int) (t : TypeId) : ∃ W : World, w.alloc (.cells #[.int .i64 a, .int .i64 b, .int .i64 c, .int .i64 d] t) = W ∧ Hid (Below w.heap.size w W) ∧ Hid (CBx W w.heap.size (a, b) (c, d)) :=
  ⟨_, rfl, hid ((Below.refl _ w).alloc (Nat.le_refl _) _), hid ⟨by simp, by simp, by simp, by simp, by simp, fun j => World.frozen?_alloc_new _ _ _ _⟩⟩

theorem known_ok (v : Value) (mx em : Int) (u0 u1 ok : Bool) (w : World) : (Instr.field 36 (knV v mx em u0 u1 ok) 4).run Tryz.prog w = .ok (.bool ok) w := by kernel_rfl

theorem zero_arr (w : World) : (binOp .eql 25 (.agg #[.int .i64 0, .int .i64 0, .int .i64 0, .int .i64 0]) (.agg #[.int .i64 0, .int .i64 0, .int .i64 0, .int .i64 0])).run Tryz.prog w = .ok (.bool true) w := by
  rw [eql_arr]; simp

set_option maxHeartbeats 1500000 in
theorem law_runs (v : Value) (l : List (Int × Int)) (x y a b c d : Int) (w : World) (hv : SvIn w v l) (hx : (Lit.int .i64 x).wf = true) (hy : (Lit.int .i64 y).wf = true) (hab : I64 a ∧ I64 b) (hcd : I64 c ∧ I64 d) (he : Env4 w) :
    Calls Tryz.prog 3 #[v, val x y, .agg #[.int .i64 a, .int .i64 b, .int .i64 c, .int .i64 d]] w fun e w' => e = .returned (.bool true) ∧ Below w.heap.size w w' := by
  have HXY := hid (i64_both hx hy); have HAB := hid hab; have HCD := hid hcd; have HE := hid he
  clear hx hy hab hcd he
  obtain ⟨hsl, _, _⟩ := hv
  have HV := hid hsl
  obtain ⟨A0, cc0, rfl, hcc, hA⟩ := hsl
  clear hA
  obtain ⟨W, hW, HB, HX⟩ := law_boxes w x y a b c d 24 25
  go_enter Tryz.func3, Tryz.ntmps3
  go_wp2_with fail
  clear hW
  refine (awake6 W (HE.out.below HB.out)).mono ?_
  rintro e w1 ⟨rfl, hb⟩
  have HB1 := hid (HB.out.trans (hb.mono HB.out.size))
  have HX1 := hid (HX.out.below hb)
  clear hb HB HX
  by_cases hlen : 60 < l.length
  · go_wp2_with fail
    go_ret
    exact ⟨rfl, HB1.out⟩
  · have hlen' : ¬ (60 : Int) < (l.length : Int) := by omega
    have ⟨_, k0, k1, q0, q1, q2, q3⟩ := HX1.out
    go_wp2_with fail
    refine (vrun_any _ l (by omega) x y a b c d HXY.out HAB.out HCD.out w1 ((HV.out.below HB1.out).mono HB1.out.size)).mono ?_
    rintro e w3 ⟨⟨r, rfl, hr⟩, hb⟩
    have HB3 := hid (HB1.out.trans (hb.mono HB1.out.size))
    have HX3 := hid (HX1.out.below hb)
    clear hb k0 k1 q0 q1 q2 q3 HX1 HB1
    cases hr with
    | code h =>
      have hch : chk l = none := by
        cases hc : chk l with
        | none => rfl
        | some s => rw [hc] at h; cases h
      have hb4 := (Below.refl w3.heap.size w3).alloc (Nat.le_refl _) (.cells #[.slice none 0 0, .int .i64 0, .int .i64 0, .int .i64 0, .int .i64 0, .int .i64 0] 29)
      have HR4 := hid (Res6.new w3 (.slice none 0 0) 0 0 0 0 0 29)
      have HB4 := hid (HB3.out.trans (hb4.mono HB3.out.size))
      clear hb4 h HX3 HB3
      go_wp2_with fail
      refine (refcheck_any _ l none (hid hch) (by omega) (w3.alloc (.cells #[.slice none 0 0, .int .i64 0, .int .i64 0, .int .i64 0, .int .i64 0, .int .i64 0] 29)) ((HV.out.below HB4.out).mono HB4.out.size)).mono ?_
      rintro e w5 hp
      obtain ⟨rfl, hb⟩ := hp
      have HB5 := hid (HB4.out.trans (hb.mono HB4.out.size))
      have ⟨_, r0, r1, r2, r3, r4, r5⟩ := HR4.out.below hb
      have hz := zero_arr
      have hkn := known_ok (.slice none 0 0) 0 0 false false false
      clear hb hch
      go_wp2_with fail
      go_ret
      exact ⟨rfl, HB5.out⟩
    | arg h h2 =>
      obtain ⟨sq, hch⟩ := Option.isSome_iff_exists.1 h
      have hb4 := (Below.refl w3.heap.size w3).alloc (Nat.le_refl _) (.cells #[.slice none 0 0, .int .i64 0, .int .i64 0, .int .i64 0, .int .i64 0, .int .i64 0] 29)
      have HR4 := hid (Res6.new w3 (.slice none 0 0) 0 0 0 0 0 29)
      have HB4 := hid (HB3.out.trans (hb4.mono HB3.out.size))
      have HX4 := hid (HX3.out.below hb4)
      clear hb4 h HX3 HB3
      have HN := hid h2
      clear h2
      go_wp2_with fail
      refine (refcheck_any _ l (some sq) (hid hch) (by omega) (w3.alloc (.cells #[.slice none 0 0, .int .i64 0, .int .i64 0, .int .i64 0, .int .i64 0, .int .i64 0] 29)) ((HV.out.below HB4.out).mono HB4.out.size)).mono ?_
      rintro e w5 hp
      obtain ⟨vD, rfl, _, hb⟩ := hp
      have HB5 := hid (HB4.out.trans (hb.mono HB4.out.size))
      have HR5 := hid (HR4.out.below hb)
      have HX5 := hid (HX4.out.below hb)
      have hz := zero_arr
      have hkn := known_ok vD sq.mx sq.em sq.u0 sq.u1 true
      clear hb hch HR4 HX4 HB4
      have ⟨_, k0, k1, _, _, _, _⟩ := HX5.out
      go_wp2_with fail
      obtain ⟨β, hβ⟩ : ∃ β, rgtB (x, y) = β := ⟨_, rfl⟩
      refine (lright_any x y β (hid hβ) w5).mono ?_
      rintro e w6 ⟨rfl, hb⟩
      have HB6 := hid (HB5.out.trans (hb.mono HB5.out.size))
      have HR6 := hid (HR5.out.below hb)
      have HX6 := hid (HX5.out.below hb)
      clear hb k0 k1 HR5 HX5 HB5
      cases β with
      | false =>
        have ⟨_, r0, r1, r2, r3, r4, r5⟩ := HR6.out
        go_wp2_with fail
        go_ret
        exact ⟨rfl, HB6.out⟩
      | true =>
        have ⟨_, _, _, q0, q1, q2, q3⟩ := HX6.out
        have Hβ := hid hβ
        clear hβ
        go_wp2_with fail
        obtain ⟨γ, hγ⟩ : ∃ γ, rgtB (a, b) = γ := ⟨_, rfl⟩
        refine (lright_any a b γ (hid hγ) w6).mono ?_
        rintro e w7 ⟨rfl, hb⟩
        have HB7 := hid (HB6.out.trans (hb.mono HB6.out.size))
        have HR7 := hid (HR6.out.below hb)
        have HX7 := hid (HX6.out.below hb)
        clear hb q0 q1 q2 q3 HR6 HX6 HB6
        cases γ with
        | false =>
          have ⟨_, r0, r1, r2, r3, r4, r5⟩ := HR7.out
          go_wp2_with fail
          go_ret
          exact ⟨rfl, HB7.out⟩
        | true =>
          have ⟨_, _, _, q0, q1, q2, q3⟩ := HX7.out
          have hδ : Hid (rgtB (c, d) = false) := hid (by
            have := HN.out
            rw [hγ] at this
            simp only [List.all_cons, List.all_nil, Hβ.out, Bool.and_true, Bool.true_and] at this
            exact this)
          clear hγ
          go_wp2_with fail
          refine (lright_any c d false hδ w7).mono ?_
          rintro e w8 ⟨rfl, hb⟩
          have HB8 := hid (HB7.out.trans (hb.mono HB7.out.size))
          have ⟨_, r0, r1, r2, r3, r4, r5⟩ := HR7.out.below hb
          clear hb q0 q1 q2 q3
          go_wp2_with fail
          go_ret
          exact ⟨rfl, HB8.out⟩
    | ok h h2 vo F hF ho =>
      obtain ⟨sq, hch⟩ := Option.isSome_iff_exists.1 h
      obtain ⟨n1, n2, n3, _⟩ := run_known h h2 hF
      obtain ⟨hft, sem⟩ := chk_some hch
      obtain ⟨Ao, co, rfl⟩ := own_form ho
      have hb4 := (Below.refl w3.heap.size w3).alloc (Nat.le_refl _) (.cells #[.slice Ao F.out.length co, .int .i64 F.c0.1, .int .i64 F.c0.2, .int .i64 F.c1.1, .int .i64 F.c1.2, .int .i64 F.n] 29)
      have HR4 := hid (Res6.new w3 (.slice Ao F.out.length co) F.c0.1 F.c0.2 F.c1.1 F.c1.2 F.n 29)
      have HB4 := hid (HB3.out.trans (hb4.mono HB3.out.size))
      have HX4 := hid (HX3.out.below hb4)
      have HO4 := hid (own_below ho hb4)
      have HN3 := hid n3
      have HFT := hid (And.intro hft sem.good)
      have HF := hid hF
      simp only [List.all_cons, List.all_nil, Bool.and_true, Bool.and_eq_true] at h2
      have HG := hid h2
      clear hb4 h HX3 HB3 ho n1 n2 n3 hft sem hF h2
      go_wp2_with fail
      refine (refcheck_any _ l (some sq) (hid hch) (by omega) (w3.alloc (.cells #[.slice Ao F.out.length co, .int .i64 F.c0.1, .int .i64 F.c0.2, .int .i64 F.c1.1, .int .i64 F.c1.2, .int .i64 F.n] 29)) ((HV.out.below HB4.out).mono HB4.out.size)).mono ?_
      rintro e w5 hp
      obtain ⟨vD, rfl, _, hb⟩ := hp
      have HB5 := hid (HB4.out.trans (hb.mono HB4.out.size))
      have HR5 := hid (HR4.out.below hb)
      have HX5 := hid (HX4.out.below hb)
      have HO5 := hid (own_below HO4.out hb)
      have hkn := known_ok vD sq.mx sq.em sq.u0 sq.u1 true
      clear hb hch HR4 HX4 HB4 HO4
      have ⟨_, k0, k1, _, _, _, _⟩ := HX5.out
      go_wp2_with fail
      refine (lright_any x y true (hid HG.out.2) w5).mono ?_
      rintro e w6 ⟨rfl, hb⟩
      have HB6 := hid (HB5.out.trans (hb.mono HB5.out.size))
      have HR6 := hid (HR5.out.below hb)
      have HX6 := hid (HX5.out.below hb)
      have HO6 := hid (own_below HO5.out hb)
      clear hb k0 k1 HR5 HX5 HB5 HO5
      have ⟨_, _, _, q0, q1, q2, q3⟩ := HX6.out
      go_wp2_with fail
      refine (lright_any a b true (hid HG.out.1.1) w6).mono ?_
      rintro e w7 ⟨rfl, hb⟩
      have HB7 := hid (HB6.out.trans (hb.mono HB6.out.size))
      have HR7 := hid (HR6.out.below hb)
      have HX7 := hid (HX6.out.below hb)
      have HO7 := hid (own_below HO6.out hb)
      clear hb q0 q1 q2 q3 HR6 HX6 HB6 HO6
      have ⟨_, _, _, q0, q1, q2, q3⟩ := HX7.out
      go_wp2_with fail
      refine (lright_any c d true (hid HG.out.1.2) w7).mono ?_
      rintro e w8 ⟨rfl, hb⟩
      have HB8 := hid (HB7.out.trans (hb.mono HB7.out.size))
      have HR8 := hid (HR7.out.below hb)
      have HX8 := hid (HX7.out.below hb)
      have HO8 := hid (own_below HO7.out hb)
      clear hb q0 q1 q2 q3 HR7 HX7 HB7 HO7
      have ⟨_, k0, k1, q0, q1, q2, q3⟩ := HX8.out
      go_wp2_with fail
      refine (refrun_any _ l HFT.out.1 HFT.out.2 x y a b c d ((rgtB_iff _).1 HG.out.2) ((rgtB_iff _).1 HG.out.1.1) ((rgtB_iff _).1 HG.out.1.2) w8 ((HV.out.below HB8.out).mono HB8.out.size) F HF).mono ?_
      rintro e w9 ⟨Ar, cr, rfl, hor, hb⟩
      have hb10 := (Below.refl w9.heap.size w9).alloc (Nat.le_refl _) (.cells #[.int .i64 F.c0.1, .int .i64 F.c0.2, .int .i64 F.c1.1, .int .i64 F.c1.2] 25)
      have hb' := hb.trans (hb10.mono hb.size)
      have HB9 := hid (HB8.out.trans (hb'.mono HB8.out.size))
      have HR9 := hid (HR8.out.below hb)
      have HO9 := hid (own_below HO8.out hb')
      have HP9 := hid (own_below hor hb10)
      obtain ⟨_, hCX, _, HCX⟩ := cell_box2 w9 F.c0.1 F.c0.2 F.c1.1 F.c1.2 25
      subst hCX
      have HR10 := hid (HR9.out.below hb10)
      have ⟨lr, r0, r1, r2, r3, r4, r5⟩ := HR9.out
      clear hb hb10 hb' k0 k1 q0 q1 q2 q3 hor HR8 HX8 HO8
      go_wp2_with fail
      refine (same_any _ _ F.out F.out true (hid (by simp)) (by have := HN3.out; omega) (by have := HN3.out; omega) (w9.alloc (.cells #[.int .i64 F.c0.1, .int .i64 F.c0.2, .int .i64 F.c1.1, .int .i64 F.c1.2] 25)) (SlV.of_own HO9.out) (SlV.of_own HP9.out)).mono ?_
      rintro e w10 ⟨rfl, hb⟩
      have HB10 := hid (HB9.out.trans (hb.mono HB9.out.size))
      have ⟨_, s0, s1, s2, s3, s4, s5⟩ := HR10.out.below hb
      have ⟨_, t0, t1, t2, t3, _⟩ := HCX.out.below hb
      simp only at t0 t1 t2 t3
      have hq : ∀ w : World, (binOp .eql 25 (.agg #[.int .i64 F.c0.1, .int .i64 F.c0.2, .int .i64 F.c1.1, .int .i64 F.c1.2]) (.agg #[.int .i64 F.c0.1, .int .i64 F.c0.2, .int .i64 F.c1.1, .int .i64 F.c1.2])).run Tryz.prog w = .ok (.bool true) w := fun w => by
        rw [eql_arr]; simp
      clear hb r0 r1 r2 r3 r4 r5
      go_wp2_with fail
      go_ret
      exact ⟨rfl, HB10.out⟩

end Go.Proofs.YtfohdoahddommaaGreatDoor
