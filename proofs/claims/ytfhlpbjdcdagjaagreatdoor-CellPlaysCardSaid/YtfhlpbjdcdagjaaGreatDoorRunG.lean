/- Layer 6, vm: the document's Run: its operations, 5. -/
import Derived.Test.YtfhlpbjdcdagjaaGreatDoorRunF
namespace Go.Proofs.YtfhlpbjdcdagjaaGreatDoor
open Go.RowKit Go.Lib
set_option linter.unusedVariables false
set_option maxRecDepth 100000

section
variable {w : World} {v1 v2 : Int} {x0 : Value} {N1 T1 : Int} {a : Int} {s : VmS}

theorem rof_from {W : World} (m n p q : Int) (h1 : Hid (into m = p)) (h2 : Hid (into n = q)) (w : World) (hb : Hid (Below W.heap.size W w)) :
    Calls Tryz.prog 45 #[.int .i64 m, .int .i64 n] w fun e w' => e = .returned (val p q) ∧ Hid (Below W.heap.size W w') :=
  (refof_from m n w hb).mono fun e w' ⟨he, hw⟩ => ⟨by rw [he, h1.out, h2.out], hw⟩

theorem neg_small {y : Int} (h : into y = y) : wrap64 (-y) = -y := by
  have := into_ge y; have := into_le y
  rw [h] at *
  unfold wrap64; omega

set_option maxHeartbeats 4000000 in
theorem rop_conj (h0 : 1 ≤ s.st.length) (hr : Rgt (topV s.st 1)) : Rop w v1 v2 x0 N1 T1 T1 9 a s (stepS 9 a (v1, v2) s) := by
  intro K2 K3 Q' A n cs Z vo act wr hn hZ h8 hfr HRM hK2
  obtain ⟨z1, z2, z3, z4, z5, z6⟩ := top_nums hZ.out (by rw [← hn.out]; omega) h8 (HRM.out.shape hn.out)
  obtain ⟨wi1, wi2⟩ := wrapI hZ.out h8
  have zz1 : 1 ≤ Z := by omega
  obtain ⟨g, rfl, hgl, hgf, ⟨t0, t1⟩, ht2⟩ := HRM.out.tops hn.out (by rw [← hn.out]; omega)
  obtain ⟨x, y, hxy⟩ := pair_of (p := topV s.st 1)
  rw [hxy] at t0 t1
  simp only at t0 t1
  have HXY := hid hxy
  clear hxy
  have HGL := hid hgl
  have HGF := hid hgf
  have hb0 : Hid (Below wr.heap.size wr wr.drew) := hid (Below.refl _ _).drew
  rw [HXY.out] at hr
  have hw3 := neg_small hr.2
  have hw4 : IntKind.i64.wrap (-y) = -y := by rw [IntKind.wrap_i64]; have := hw3; unfold wrap64 at this; exact this
  obtain ⟨p, q, hpq⟩ := pair_of (p := conjV (x, y))
  have HT := hid hpq
  have H1 : Hid (into x = p) := hid (by have := congrArg Prod.fst hpq; unfold conjV at this; simp only at this; exact this)
  have H2 : Hid (into (-y) = q) := hid (by have := congrArg Prod.snd hpq; unfold conjV at this; simp only [hr.2] at this; exact this)
  clear hpq hr ht2
  have HU := hid (And.intro t0 t1)
  obtain ⟨u, rfl⟩ := hfr.open_
  clear hfr
  conv => arg 2; whnf
  go_wp2_with fail
  go_region_law (first | (go_simp; go_at_call 45; (refine (rof_from (W := wr) _ _ p q H1 H2 _ ?_).mono ?_); assumption; rintro e w4 ⟨rfl, HB4⟩; have u2 := ((bcell HB4.out).1 _ _ HGL.out).trans HU.out.1; have u3 := ((bcell HB4.out).1 _ _ HGL.out).trans HU.out.2; have uf := fun j => ((bcell HB4.out).2 _ j HGL.out).trans (HGF.out j)))
  all_goals
    go_wp2_with fail
    refine NXr.mk ⟨rfl, rfl, rfl, rfl, rfl, rfl, rfl, rfl, rfl, rfl, rfl, rfl, rfl⟩ (hid (((HRM.out.below HB4.out).put' hn.out (n - 1) p q).to ?_ rfl rfl rfl))
    show s.st.set (n - 1) (p, q) = cutV s.st 1 ++ [conjV (topV s.st 1)]
    rw [eff_one hn.out (by rw [← hn.out]; exact h0), HXY.out, HT.out]

set_option maxHeartbeats 4000000 in
theorem rop_turn (h0 : 1 ≤ s.st.length) (hr : Rgt (topV s.st 1)) : Rop w v1 v2 x0 N1 T1 T1 10 a s (stepS 10 a (v1, v2) s) := by
  intro K2 K3 Q' A n cs Z vo act wr hn hZ h8 hfr HRM hK2
  obtain ⟨z1, z2, z3, z4, z5, z6⟩ := top_nums hZ.out (by rw [← hn.out]; omega) h8 (HRM.out.shape hn.out)
  obtain ⟨wi1, wi2⟩ := wrapI hZ.out h8
  have zz1 : 1 ≤ Z := by omega
  obtain ⟨g, rfl, hgl, hgf, ⟨t0, t1⟩, ht2⟩ := HRM.out.tops hn.out (by rw [← hn.out]; omega)
  obtain ⟨x, y, hxy⟩ := pair_of (p := topV s.st 1)
  rw [hxy] at t0 t1
  simp only at t0 t1
  have HXY := hid hxy
  clear hxy
  have HGL := hid hgl
  have HGF := hid hgf
  have hb0 : Hid (Below wr.heap.size wr wr.drew) := hid (Below.refl _ _).drew
  rw [HXY.out] at hr
  have hw3 := neg_small hr.2
  have hw4 : IntKind.i64.wrap (-y) = -y := by rw [IntKind.wrap_i64]; have := hw3; unfold wrap64 at this; exact this
  obtain ⟨p, q, hpq⟩ := pair_of (p := turnV (x, y))
  have HT := hid hpq
  have H1 : Hid (into (-y) = p) := hid (by have := congrArg Prod.fst hpq; unfold turnV at this; simp only [hr.2] at this; exact this)
  have H2 : Hid (into x = q) := hid (by have := congrArg Prod.snd hpq; unfold turnV at this; simp only at this; exact this)
  clear hpq hr ht2
  have HU := hid (And.intro t0 t1)
  obtain ⟨u, rfl⟩ := hfr.open_
  clear hfr
  conv => arg 2; whnf
  go_wp2_with fail
  go_region_law (first | (go_simp; go_at_call 45; (refine (rof_from (W := wr) _ _ p q H1 H2 _ ?_).mono ?_); assumption; rintro e w4 ⟨rfl, HB4⟩; have u2 := ((bcell HB4.out).1 _ _ HGL.out).trans HU.out.1; have u3 := ((bcell HB4.out).1 _ _ HGL.out).trans HU.out.2; have uf := fun j => ((bcell HB4.out).2 _ j HGL.out).trans (HGF.out j)))
  all_goals
    go_wp2_with fail
    refine NXr.mk ⟨rfl, rfl, rfl, rfl, rfl, rfl, rfl, rfl, rfl, rfl, rfl, rfl, rfl⟩ (hid (((HRM.out.below HB4.out).put' hn.out (n - 1) p q).to ?_ rfl rfl rfl))
    show s.st.set (n - 1) (p, q) = cutV s.st 1 ++ [turnV (topV s.st 1)]
    rw [eff_one hn.out (by rw [← hn.out]; exact h0), HXY.out, HT.out]

set_option maxHeartbeats 4000000 in
theorem rop_lt (h0 : 2 ≤ s.st.length) (hr : Rgt (topV s.st 1)) (hr2 : Rgt (topV s.st 2)) : Rop w v1 v2 x0 N1 T1 T1 17 a s (stepS 17 a (v1, v2) s) := by
  intro K2 K3 Q' A n cs Z vo act wr hn hZ h8 hfr HRM hK2
  obtain ⟨z1, z2, z3, z4, z5, z6⟩ := top_nums hZ.out (by rw [← hn.out]; omega) h8 (HRM.out.shape hn.out)
  obtain ⟨wi1, wi2⟩ := wrapI hZ.out h8
  have zz1 : 1 ≤ Z := by omega
  obtain ⟨g, rfl, hgl, hgf, ⟨t0, t1⟩, ht2⟩ := HRM.out.tops hn.out (by rw [← hn.out]; omega)
  obtain ⟨x, y, hxy⟩ := pair_of (p := topV s.st 1)
  rw [hxy] at t0 t1
  simp only at t0 t1
  have HXY := hid hxy
  clear hxy
  have HGL := hid hgl
  have HGF := hid hgf
  have hb0 : Hid (Below wr.heap.size wr wr.drew) := hid (Below.refl _ _).drew
  obtain ⟨y1, y2, y3, y4⟩ := two_nums hZ.out (by rw [← hn.out]; omega) h8
  have zz2 : 2 ≤ Z := by omega
  obtain ⟨t2, t3⟩ := ht2 (by rw [← hn.out]; omega)
  obtain ⟨x', y', hxy'⟩ := pair_of (p := topV s.st 2)
  rw [hxy'] at t2 t3
  simp only at t2 t3
  have HXY' := hid hxy'
  clear hxy'
  have HL : Hid (lessV (topV s.st 2) (topV s.st 1) = if x' < x then (1, 0) else (0, 0)) := hid (by
    rw [HXY.out] at hr ⊢
    rw [HXY'.out] at hr2 ⊢
    unfold lessV
    rw [show into (x', y').1 = x' from hr2.1, show into (x, y).1 = x from hr.1])
  clear hr hr2
  obtain ⟨u, rfl⟩ := hfr.open_
  clear hfr
  conv => arg 2; whnf
  go_wp2_with fail
  go_quiet (fail)
  have HR2 := hid (HRM.out.below (below_drewN' (Below.refl _ _) nq))
  have uf : ∀ j, (wr.drewN nq).frozen? ⟨g, j, none⟩ = false := HGF.out
  have u2 : (wr.drewN nq).cell? ⟨g, (n - 2) * 2, none⟩ = some (.int .i64 x') := t2
  have u3 : (wr.drewN nq).cell? ⟨g, (n - 2) * 2 + 1, none⟩ = some (.int .i64 y') := t3
  clear t0 t1 t2 t3 hgf hgl hb0 HGL HGF HRM
  generalize wr.drewN nq = wr2 at HR2 u2 u3 uf ⊢
  by_cases hlt : x' < x
  · have HLT := hid hlt
    go_wp2_with fail
    refine NXr.mk ⟨rfl, rfl, rfl, rfl, rfl, rfl, rfl, rfl, rfl, rfl, rfl, rfl, rfl⟩ (hid (((((HR2.out.put' hn.out (n - 2) 0 0).putRe (by rw [List.length_set]; exact hn.out) (n - 2) 0 0 1 s.st (by have := hn.out; omega) hn.out rfl).cut' (by rw [List.length_set]; exact hn.out) (n - 1) (by omega)).to ?_ rfl rfl rfl)))
    show (s.st.set (n - 2) (1, 0)).take (n - 1) = cutV s.st 2 ++ [lessV (topV s.st 2) (topV s.st 1)]
    rw [eff_two hn.out (by rw [← hn.out]; exact h0), HL.out, if_pos HLT.out]
  · have HLT := hid hlt
    go_wp2_with fail
    refine NXr.mk ⟨rfl, rfl, rfl, rfl, rfl, rfl, rfl, rfl, rfl, rfl, rfl, rfl, rfl⟩ (hid ((((HR2.out.put' hn.out (n - 2) 0 0).cut' (by rw [List.length_set]; exact hn.out) (n - 1) (by omega)).to ?_ rfl rfl rfl)))
    show (s.st.set (n - 2) (0, 0)).take (n - 1) = cutV s.st 2 ++ [lessV (topV s.st 2) (topV s.st 1)]
    rw [eff_two hn.out (by rw [← hn.out]; exact h0), HL.out, if_neg (by have := HLT.out; omega)]

set_option maxHeartbeats 4000000 in
theorem rop_swap (h0 : 2 ≤ s.st.length) : Rop w v1 v2 x0 N1 T1 T1 12 a s (stepS 12 a (v1, v2) s) := by
  intro K2 K3 Q' A n cs Z vo act wr hn hZ h8 hfr HRM hK2
  obtain ⟨z1, z2, z3, z4, z5, z6⟩ := top_nums hZ.out (by rw [← hn.out]; omega) h8 (HRM.out.shape hn.out)
  obtain ⟨wi1, wi2⟩ := wrapI hZ.out h8
  have zz1 : 1 ≤ Z := by omega
  obtain ⟨g, rfl, hgl, hgf, ⟨t0, t1⟩, ht2⟩ := HRM.out.tops hn.out (by rw [← hn.out]; omega)
  obtain ⟨x, y, hxy⟩ := pair_of (p := topV s.st 1)
  rw [hxy] at t0 t1
  simp only at t0 t1
  have HXY := hid hxy
  clear hxy
  have HGL := hid hgl
  have HGF := hid hgf
  have hb0 : Hid (Below wr.heap.size wr wr.drew) := hid (Below.refl _ _).drew
  obtain ⟨y1, y2, y3, y4⟩ := two_nums hZ.out (by rw [← hn.out]; omega) h8
  have zz2 : 2 ≤ Z := by omega
  obtain ⟨t2, t3⟩ := ht2 (by rw [← hn.out]; omega)
  obtain ⟨x', y', hxy'⟩ := pair_of (p := topV s.st 2)
  rw [hxy'] at t2 t3
  simp only at t2 t3
  have HXY' := hid hxy'
  clear hxy'
  obtain ⟨u, rfl⟩ := hfr.open_
  clear hfr
  conv => arg 2; whnf
  go_wp2_with fail
  go_region_law (fail)
  all_goals
    go_wp2_with fail
    refine NXr.mk ⟨rfl, rfl, rfl, rfl, rfl, rfl, rfl, rfl, rfl, rfl, rfl, rfl, rfl⟩ (hid ((((HRM.out.put' hn.out (n - 2) x y).put' (by rw [List.length_set]; exact hn.out) (n - 1) x' y').below ((Below.refl _ _).drew)).to ?_ rfl rfl rfl))
    show (s.st.set (n - 2) (x, y)).set (n - 1) (x', y') = cutV s.st 2 ++ [topV s.st 1, topV s.st 2]
    rw [eff_swap hn.out (by rw [← hn.out]; exact h0), HXY.out, HXY'.out]

end

end Go.Proofs.YtfhlpbjdcdagjaaGreatDoor
