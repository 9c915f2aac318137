/- Layer 6, vm: the document's Run: its operations, 4. -/
import Derived.Test.YtfhlpbjdcdagjaaGreatDoorRunC
namespace Go.Proofs.YtfhlpbjdcdagjaaGreatDoor
open Go.RowKit Go.Lib
set_option linter.unusedVariables false
set_option maxRecDepth 100000

section
variable {w : World} {v1 v2 : Int} {x0 : Value} {N1 T1 : Int} {a : Int} {s : VmS}

theorem RM.put' {wr : World} {g n c : Nat} {vo : Value} (h : RM w v1 v2 wr (.slice (some ⟨g, 0, none⟩) n c) vo s) (hn : s.st.length = n) (j : Nat) (x y : Int) :
    RM w v1 v2 ((wr.setCell ⟨g, j * 2, none⟩ (.int .i64 x)).setCell ⟨g, j * 2 + 1, none⟩ (.int .i64 y)) (.slice (some ⟨g, 0, none⟩) n c) vo { s with st := s.st.set j (x, y) } := by
  subst hn
  exact h.put j x y

theorem RM.putRe {wr : World} {g n c : Nat} {vo : Value} (h : RM w v1 v2 wr (.slice (some ⟨g, 0, none⟩) n c) vo s) (hn : s.st.length = n) (j : Nat) (x y z : Int) (st0 : List (Int × Int)) (hj : j < n) (hl : st0.length = n) (hs : s.st = st0.set j (x, y)) :
    RM w v1 v2 (wr.setCell ⟨g, j * 2, none⟩ (.int .i64 z)) (.slice (some ⟨g, 0, none⟩) n c) vo { s with st := st0.set j (z, y) } := by
  have ho := h.own
  rw [hn] at ho
  obtain ⟨h1, h2⟩ := ho.stored (j * 2) (.int .i64 z)
  refine h.stack (vs' := .slice (some ⟨g, 0, none⟩) n c) h2 ?_ (.inl rfl)
  have e : insCells (st0.set j (z, y)) = (insCells s.st).set (j * 2) (.int .i64 z) := by
    rw [hs, insCells_set, insCells_set]
    apply List.ext_getElem?
    intro i
    by_cases e1 : i = j * 2 + 1
    · subst e1
      rw [List.getElem?_set_ne (by omega) (i := j * 2)]
      rw [List.getElem?_set_self (by rw [List.length_set, insCells_len]; omega), List.getElem?_set_self (by rw [List.length_set, insCells_len]; omega)]
    · by_cases e2 : i = j * 2
      · subst e2
        rw [List.getElem?_set_ne (by omega), List.getElem?_set_self (by rw [insCells_len]; omega), List.getElem?_set_self (by rw [List.length_set, List.length_set, insCells_len]; omega)]
      · rw [List.getElem?_set_ne (by omega), List.getElem?_set_ne (by omega), List.getElem?_set_ne (by omega), List.getElem?_set_ne (by omega), List.getElem?_set_ne (by omega)]
  rw [e, List.length_set, hl]
  exact h1

theorem radd_from {W : World} (a b c d p q : Int) (h : Hid (twoV 6 (a, b) (c, d) = (p, q))) (w : World) (hb : Hid (Below W.heap.size W w)) :
    Calls Tryz.prog 49 #[val a b, val c d] w fun e w' => e = .returned (val p q) ∧ Hid (Below W.heap.size W w') :=
  (refadd_any a b c d w).mono fun e w' ⟨he, hw⟩ => ⟨by
    have h1 := congrArg Prod.fst h.out
    have h2 := congrArg Prod.snd h.out
    rw [he]
    show Ending.returned (val (twoV 6 (a, b) (c, d)).1 (twoV 6 (a, b) (c, d)).2) = _
    rw [h1, h2], hid (hb.out.trans (hw.mono hb.out.size))⟩

set_option maxHeartbeats 4000000 in
theorem rop_add (h0 : 2 ≤ s.st.length) : Rop w v1 v2 x0 N1 T1 T1 6 a s (stepS 6 a (v1, v2) s) := by
  intro K2 K3 Q' A n cs Z vo act wr hn hZ h8 hfr HRM hK2
  obtain ⟨z1, z2, z3, z4, z5, z6⟩ := top_nums hZ.out (by rw [← hn.out]; omega) h8 (HRM.out.shape hn.out)
  obtain ⟨wi1, wi2⟩ := wrapI hZ.out h8
  have zz1 : 1 ≤ Z := by omega
  obtain ⟨g, rfl, hgl, hgf, ⟨t0, t1⟩, ht2⟩ := HRM.out.tops hn.out (by rw [← hn.out]; omega)
  obtain ⟨x, y, hxy⟩ := pair_of (p := topV s.st 1)
  rw [hxy] at t0 t1
  simp only at t0 t1
  have HXY := hid hxy
  clear hxy
  have HGL := hid hgl
  have HGF := hid hgf
  have hb0 : Hid (Below wr.heap.size wr wr.drew) := hid (Below.refl _ _).drew
  obtain ⟨y1, y2, y3, y4⟩ := two_nums hZ.out (by rw [← hn.out]; omega) h8
  have zz2 : 2 ≤ Z := by omega
  obtain ⟨t2, t3⟩ := ht2 (by rw [← hn.out]; omega)
  obtain ⟨x', y', hxy'⟩ := pair_of (p := topV s.st 2)
  rw [hxy'] at t2 t3
  simp only at t2 t3
  have HXY' := hid hxy'
  clear hxy'
  obtain ⟨p, q, hpq⟩ := pair_of (p := twoV 6 (x', y') (x, y))
  have HT := hid hpq
  clear hpq
  have HU := hid (And.intro t2 t3)
  obtain ⟨u, rfl⟩ := hfr.open_
  clear hfr
  conv => arg 2; whnf
  go_wp2_with fail
  go_region_law (first | (go_simp; go_at_call 49; (refine (radd_from (W := wr) x' y' x y p q HT _ ?_).mono ?_); assumption; rintro e w4 ⟨rfl, HB4⟩; have u2 := ((bcell HB4.out).1 _ _ HGL.out).trans HU.out.1; have u3 := ((bcell HB4.out).1 _ _ HGL.out).trans HU.out.2; have uf := fun j => ((bcell HB4.out).2 _ j HGL.out).trans (HGF.out j)))
  all_goals
    go_wp2_with fail
    refine NXr.mk ⟨rfl, rfl, rfl, rfl, rfl, rfl, rfl, rfl, rfl, rfl, rfl, rfl, rfl⟩ (hid ((((HRM.out.below HB4.out).put' hn.out (n - 2) p q).cut' (by rw [List.length_set]; exact hn.out) (n - 1) (by omega)).to ?_ rfl rfl rfl))
    show (s.st.set (n - 2) (p, q)).take (n - 1) = cutV s.st 2 ++ [twoV 6 (topV s.st 2) (topV s.st 1)]
    rw [eff_two hn.out (by rw [← hn.out]; exact h0), HXY.out, HXY'.out, HT.out]

theorem rsub_from {W : World} (a b c d p q : Int) (h : Hid (twoV 7 (a, b) (c, d) = (p, q))) (w : World) (hb : Hid (Below W.heap.size W w)) :
    Calls Tryz.prog 50 #[val a b, val c d] w fun e w' => e = .returned (val p q) ∧ Hid (Below W.heap.size W w') :=
  (refsub_any a b c d w).mono fun e w' ⟨he, hw⟩ => ⟨by
    have h1 := congrArg Prod.fst h.out
    have h2 := congrArg Prod.snd h.out
    rw [he]
    show Ending.returned (val (twoV 7 (a, b) (c, d)).1 (twoV 7 (a, b) (c, d)).2) = _
    rw [h1, h2], hid (hb.out.trans (hw.mono hb.out.size))⟩

set_option maxHeartbeats 4000000 in
theorem rop_sub (h0 : 2 ≤ s.st.length) : Rop w v1 v2 x0 N1 T1 T1 7 a s (stepS 7 a (v1, v2) s) := by
  intro K2 K3 Q' A n cs Z vo act wr hn hZ h8 hfr HRM hK2
  obtain ⟨z1, z2, z3, z4, z5, z6⟩ := top_nums hZ.out (by rw [← hn.out]; omega) h8 (HRM.out.shape hn.out)
  obtain ⟨wi1, wi2⟩ := wrapI hZ.out h8
  have zz1 : 1 ≤ Z := by omega
  obtain ⟨g, rfl, hgl, hgf, ⟨t0, t1⟩, ht2⟩ := HRM.out.tops hn.out (by rw [← hn.out]; omega)
  obtain ⟨x, y, hxy⟩ := pair_of (p := topV s.st 1)
  rw [hxy] at t0 t1
  simp only at t0 t1
  have HXY := hid hxy
  clear hxy
  have HGL := hid hgl
  have HGF := hid hgf
  have hb0 : Hid (Below wr.heap.size wr wr.drew) := hid (Below.refl _ _).drew
  obtain ⟨y1, y2, y3, y4⟩ := two_nums hZ.out (by rw [← hn.out]; omega) h8
  have zz2 : 2 ≤ Z := by omega
  obtain ⟨t2, t3⟩ := ht2 (by rw [← hn.out]; omega)
  obtain ⟨x', y', hxy'⟩ := pair_of (p := topV s.st 2)
  rw [hxy'] at t2 t3
  simp only at t2 t3
  have HXY' := hid hxy'
  clear hxy'
  obtain ⟨p, q, hpq⟩ := pair_of (p := twoV 7 (x', y') (x, y))
  have HT := hid hpq
  clear hpq
  have HU := hid (And.intro t2 t3)
  obtain ⟨u, rfl⟩ := hfr.open_
  clear hfr
  conv => arg 2; whnf
  go_wp2_with fail
  go_region_law (first | (go_simp; go_at_call 50; (refine (rsub_from (W := wr) x' y' x y p q HT _ ?_).mono ?_); assumption; rintro e w4 ⟨rfl, HB4⟩; have u2 := ((bcell HB4.out).1 _ _ HGL.out).trans HU.out.1; have u3 := ((bcell HB4.out).1 _ _ HGL.out).trans HU.out.2; have uf := fun j => ((bcell HB4.out).2 _ j HGL.out).trans (HGF.out j)))
  all_goals
    go_wp2_with fail
    refine NXr.mk ⟨rfl, rfl, rfl, rfl, rfl, rfl, rfl, rfl, rfl, rfl, rfl, rfl, rfl⟩ (hid ((((HRM.out.below HB4.out).put' hn.out (n - 2) p q).cut' (by rw [List.length_set]; exact hn.out) (n - 1) (by omega)).to ?_ rfl rfl rfl))
    show (s.st.set (n - 2) (p, q)).take (n - 1) = cutV s.st 2 ++ [twoV 7 (topV s.st 2) (topV s.st 1)]
    rw [eff_two hn.out (by rw [← hn.out]; exact h0), HXY.out, HXY'.out, HT.out]

theorem rmul_from {W : World} (a b c d p q : Int) (h : Hid (twoV 8 (a, b) (c, d) = (p, q))) (w : World) (hb : Hid (Below W.heap.size W w)) :
    Calls Tryz.prog 51 #[val a b, val c d] w fun e w' => e = .returned (val p q) ∧ Hid (Below W.heap.size W w') :=
  (refmul_any a b c d w).mono fun e w' ⟨he, hw⟩ => ⟨by
    have h1 := congrArg Prod.fst h.out
    have h2 := congrArg Prod.snd h.out
    rw [he]
    show Ending.returned (val (twoV 8 (a, b) (c, d)).1 (twoV 8 (a, b) (c, d)).2) = _
    rw [h1, h2], hid (hb.out.trans (hw.mono hb.out.size))⟩

set_option maxHeartbeats 4000000 in
theorem rop_mul (h0 : 2 ≤ s.st.length) : Rop w v1 v2 x0 N1 T1 T1 8 a s (stepS 8 a (v1, v2) s) := by
  intro K2 K3 Q' A n cs Z vo act wr hn hZ h8 hfr HRM hK2
  obtain ⟨z1, z2, z3, z4, z5, z6⟩ := top_nums hZ.out (by rw [← hn.out]; omega) h8 (HRM.out.shape hn.out)
  obtain ⟨wi1, wi2⟩ := wrapI hZ.out h8
  have zz1 : 1 ≤ Z := by omega
  obtain ⟨g, rfl, hgl, hgf, ⟨t0, t1⟩, ht2⟩ := HRM.out.tops hn.out (by rw [← hn.out]; omega)
  obtain ⟨x, y, hxy⟩ := pair_of (p := topV s.st 1)
  rw [hxy] at t0 t1
  simp only at t0 t1
  have HXY := hid hxy
  clear hxy
  have HGL := hid hgl
  have HGF := hid hgf
  have hb0 : Hid (Below wr.heap.size wr wr.drew) := hid (Below.refl _ _).drew
  obtain ⟨y1, y2, y3, y4⟩ := two_nums hZ.out (by rw [← hn.out]; omega) h8
  have zz2 : 2 ≤ Z := by omega
  obtain ⟨t2, t3⟩ := ht2 (by rw [← hn.out]; omega)
  obtain ⟨x', y', hxy'⟩ := pair_of (p := topV s.st 2)
  rw [hxy'] at t2 t3
  simp only at t2 t3
  have HXY' := hid hxy'
  clear hxy'
  obtain ⟨p, q, hpq⟩ := pair_of (p := twoV 8 (x', y') (x, y))
  have HT := hid hpq
  clear hpq
  have HU := hid (And.intro t2 t3)
  obtain ⟨u, rfl⟩ := hfr.open_
  clear hfr
  conv => arg 2; whnf
  go_wp2_with fail
  go_region_law (first | (go_simp; go_at_call 51; (refine (rmul_from (W := wr) x' y' x y p q HT _ ?_).mono ?_); assumption; rintro e w4 ⟨rfl, HB4⟩; have u2 := ((bcell HB4.out).1 _ _ HGL.out).trans HU.out.1; have u3 := ((bcell HB4.out).1 _ _ HGL.out).trans HU.out.2; have uf := fun j => ((bcell HB4.out).2 _ j HGL.out).trans (HGF.out j)))
  all_goals
    go_wp2_with fail
    refine NXr.mk ⟨rfl, rfl, rfl, rfl, rfl, rfl, rfl, rfl, rfl, rfl, rfl, rfl, rfl⟩ (hid ((((HRM.out.below HB4.out).put' hn.out (n - 2) p q).cut' (by rw [List.length_set]; exact hn.out) (n - 1) (by omega)).to ?_ rfl rfl rfl))
    show (s.st.set (n - 2) (p, q)).take (n - 1) = cutV s.st 2 ++ [twoV 8 (topV s.st 2) (topV s.st 1)]
    rw [eff_two hn.out (by rw [← hn.out]; exact h0), HXY.out, HXY'.out, HT.out]

end

end Go.Proofs.YtfhlpbjdcdagjaaGreatDoor
