/- Layer 5, check: the walk of CheckDead. -/
import Derived.Test.YtnhibimpolamoaaChkL
import Derived.Deep.CutBlock
namespace Go.Proofs.Ytnhibimpolamoaa
open Go.RowKit Go.Lib
set_option linter.unusedVariables false

theorem neq_flags (a b : Bool) (w : World) : (binOp .neq 25 (.agg #[.bool a, .bool b]) (.agg #[.bool a, .bool b])).run Try.prog w = .ok (.bool false) w := by
  cases a <;> cases b <;> kernel_rfl

/-- A row of the call's own, one instruction of which is written. -/
theorem own_set2 {w : World} {B g cap n : Nat} {l : List (Int × Int)} (h : w.ownsRow B 36 2 (.slice (some ⟨g, 0, none⟩) n cap) l.length (insCells l)) (hn : l.length = n) {k : Nat} (hk : k < n) (o a : Int) :
    SlV ((w.setCell ⟨g, k * 2, none⟩ (.int .i64 o)).setCell ⟨g, k * 2 + 1, none⟩ (.int .i64 a)) ((w.setCell ⟨g, k * 2, none⟩ (.int .i64 o)).setCell ⟨g, k * 2 + 1, none⟩ (.int .i64 a)).heap.size (.slice (some ⟨g, 0, none⟩) n cap) (l.set k (o, a)) := by
  obtain ⟨A, c, hv, hc, hA⟩ := SlV.of_own h
  injection hv with h1 h2 h3
  subst h1; subst h3
  obtain ⟨b, o1, e, hb, hcell⟩ := hA (by omega)
  injection e with e
  injection e with e1 e2
  subst e1; subst e2
  have hlen : (l.set k (o, a)).length = n := by simp [hn]
  refine ⟨_, cap, by rw [hlen], by omega, fun _ => ⟨g, 0, rfl, by simpa using hb, fun j hj => ?_⟩⟩
  rw [hlen] at hj
  obtain ⟨c0, c1⟩ := hcell j (by omega)
  by_cases hjk : j = k
  · subst hjk
    have hg : (l.set j (o, a)).getD j (0, 0) = (o, a) := by
      rw [List.getD_eq_getElem?_getD, List.getElem?_set_self (by omega)]; rfl
    rw [hg]
    simp only [Nat.zero_add] at c0 c1 ⊢
    refine ⟨?_, ?_⟩
    · rw [World.cell?_setCell_other _ _ _ _ (by intro e; injection e with e1 e2; omega), World.cell?_setCell_same _ _ _ c0]
    · rw [World.cell?_setCell_same (u := .int .i64 (l.getD j (0, 0)).2) _ _ _ (by rw [World.cell?_setCell_other _ _ _ _ (by intro e; injection e with e1 e2; omega)]; exact c1)]
  · have hg : (l.set k (o, a)).getD j (0, 0) = l.getD j (0, 0) := by
      rw [List.getD_eq_getElem?_getD, List.getElem?_set_ne (fun e => hjk e.symm), ← List.getD_eq_getElem?_getD]
    rw [hg]
    simp only [Nat.zero_add] at c0 c1 ⊢
    refine ⟨?_, ?_⟩
    · rw [World.cell?_setCell_other _ _ _ _ (by intro e; injection e with e1 e2; omega), World.cell?_setCell_other _ _ _ _ (by intro e; injection e with e1 e2; omega)]; exact c0
    · rw [World.cell?_setCell_other _ _ _ _ (by intro e; injection e with e1 e2; omega), World.cell?_setCell_other _ _ _ _ (by intro e; injection e with e1 e2; omega)]; exact c1

set_option maxRecDepth 100000 in
set_option maxHeartbeats 4000000 in
theorem law_dead (v : Value) (l : List (Int × Int)) (o a cut : Int) (w : World) (hv : SnIn w v l) (ho : (Lit.int .i64 o).wf = true) (ha : (Lit.int .i64 a).wf = true) (hcut : (Lit.int .u8 cut).wf = true) :
    Calls Try.prog 5 #[v, val o a, .int .u8 cut] w fun e w' => e = .returned (.bool true) ∧ Below w.heap.size w w' := by
  have hm := hv.most
  unfold maxLen at hm
  have hr := hv.row
  obtain ⟨A, c, rfl, hc, _⟩ := hv.row
  have hN : A = none → l.length = 0 ∧ c = 0 := fun h => hv.nil _ _ (by rw [h])
  clear hv ho ha
  obtain ⟨n, hn⟩ : ∃ n, l.length = n := ⟨_, rfl⟩
  rw [hn] at hm hc hr hN ⊢
  have HV := hid hr; have HL := hid hn
  have hcu : 0 ≤ cut ∧ cut ≤ 255 := by
    simp [Lit.wf, IntKind.min, IntKind.max, IntKind.signed, IntKind.bits] at hcut
    omega
  obtain ⟨hcu0, hcu1⟩ := hcu
  obtain ⟨ct, rfl⟩ : ∃ k : Nat, cut = (k : Int) := ⟨cut.toNat, by omega⟩
  clear hcut hr
  go_enter Try.func5, Try.ntmps5
  go_wp2_with fail
  obtain ⟨W, hW, ⟨j0, j1⟩, l0, HW⟩ := box1_of w 36 (.int .i64 o) (.int .i64 a)
  rw [hW]; clear hW
  refine (awake5 W).mono ?_
  rintro e w1 ⟨rfl, hb⟩
  obtain ⟨hc1, hf1⟩ := bcell hb
  have j0 := (hc1 _ _ l0).trans j0
  have j1 := (hc1 _ _ l0).trans j1
  have HW1 := hid (HW.out.trans (hb.mono HW.out.size))
  have l1 := Nat.lt_of_lt_of_le l0 hb.size
  clear hc1 hf1 hb HW l0
  by_cases h24 : 24 < n
  · have d1 : decide ((24 : Int) < (n : Int)) = true := decide_eq_true (by omega)
    go_wp2_with fail
    go_ret
    exact ⟨rfl, HW1.out⟩
  have d1 : decide ((24 : Int) < (n : Int)) = false := decide_eq_false (by omega)
  by_cases h0 : n = 0
  · have z1 : ((n : Int) == 0) = true := by simp [h0]
    go_wp2_with fail
    go_ret
    exact ⟨rfl, HW1.out⟩
  have z1 : ((n : Int) == 0) = false := by simp; omega
  cases hri : rightI (o, a) with
  | false =>
    have HR := hid hri; clear hri
    go_wp2_with fail
    refine (right_any o a false HR _).mono ?_
    rintro e w2 ⟨rfl, hb⟩
    have HW2 := hid (HW1.out.trans (hb.mono HW1.out.size)); clear hb
    go_wp2_with fail
    go_ret
    exact ⟨rfl, HW2.out⟩
  | true =>
    have HR := hid hri; clear hri
    go_wp2_with fail
    refine (right_any o a true HR _).mono ?_
    rintro e w2 ⟨rfl, hb⟩
    obtain ⟨hc1, hf1⟩ := bcell hb
    have j0 := (hc1 _ _ l1).trans j0
    have j1 := (hc1 _ _ l1).trans j1
    have HW2 := hid (HW1.out.trans (hb.mono HW1.out.size))
    have l2 := Nat.lt_of_lt_of_le l1 hb.size
    clear hc1 hf1 hb HW1 l1 d1 z1
    obtain ⟨q, hq⟩ : ∃ q, chk l = q := ⟨_, rfl⟩
    have HQ := hid hq; clear hq
    go_wp2_with fail
    refine (check_any _ l q HQ (by omega) w2 (HV.out.here HW2)).mono ?_
    intro e w3 hp
    obtain ⟨k, hk⟩ : ∃ k, ct % n = k := ⟨_, rfl⟩
    have hkn : k < n := by rw [← hk]; exact Nat.mod_lt _ (by omega)
    have hrem : Int.tmod (ct : Int) (n : Int) = (k : Int) := by rw [← hk]; rfl
    have hrem2 : (ct : Int) % (n : Int) = (k : Int) := by rw [← hk]; rfl
    have hn0 : ((n : Int) == 0) = false := by simp; omega
    clear hk
    cases q with
    | none =>
      obtain ⟨rfl, hb⟩ := hp
      have HW3 := hid (HW2.out.trans (hb.mono HW2.out.size)); clear hb
      go_wp2_with fail
      go_ret
      exact ⟨rfl, HW3.out.alloc HW3.out.size _⟩
    | some s =>
      obtain ⟨D, E, mx, em, u0, u1⟩ := s
      obtain ⟨v1, rfl, hsl, hb⟩ := hp
      obtain ⟨hc1, hf1⟩ := bcell hb
      have j0 := (hc1 _ _ l2).trans j0
      have j1 := (hc1 _ _ l2).trans j1
      have HW3 := hid (HW2.out.trans (hb.mono HW2.out.size))
      have l3 := Nat.lt_of_lt_of_le l2 hb.size
      have HDL : Hid (D.length = n) := hid (by rw [(chk_some HQ.out).2.len, HL.out])
      clear hc1 hf1 hb l2
      obtain ⟨A1, c1, rfl, hcc, hA1⟩ := hsl
      simp only at hcc hA1 ⊢
      rw [HDL.out] at hcc ⊢
      obtain ⟨b1, o1, rfl, hbB, hcell⟩ := hA1 (by rw [HDL.out]; omega)
      have hdk := hcell k (by rw [HDL.out]; exact hkn)
      obtain ⟨x, hx⟩ : ∃ x, D.getD k 0 = x := ⟨_, rfl⟩
      rw [hx] at hdk
      have HX := hid hx
      have HCELL := hid hcell
      clear hcell hA1 hx
      by_cases hx1 : x = -1
      · have hxn : (x == -1) = true := by simpa using hx1
        have hxm : (x != -1) = false := by simp [hx1]
        obtain ⟨⟨D', E', mx', em', u0', u1'⟩, hs', e1, e2, e3, e4, e5⟩ := chk_dead HQ.out (by rw [HL.out]; exact hkn) (by simp only; exact HX.out.trans hx1) HR.out
        simp only at e1 e2 e3 e4 e5
        subst e1; subst e2; subst e3; subst e4; subst e5
        have HS' := hid hs'; clear hs'
        clear hx1
        go_upto_region 9 with fail
        clear hdk hxn hxm hrem hrem2 hn0
        obtain ⟨X1, hX1, ⟨r0, r1, r2, r3, r4⟩, rf, rs, HX1⟩ := box5_of w3 27 (.slice (some ⟨b1, o1, none⟩) n c1) (.int .i64 mx') (.int .i64 em') (.bool u0') (.bool u1')
        rw [hX1]; clear hX1 rf
        have lX1 : w3.heap.size < X1.heap.size := by omega
        have hX13 : w3.heap.size ≤ X1.heap.size := by omega
        clear rs
        have HWX := hid (HW3.out.trans (HX1.out.mono HW3.out.size))
        obtain ⟨i0, hi, hz0, hz1, hz2⟩ := info_parts insInfo
        have HO4 : Hid ((X1.alloc (.cells #[] 36)).ownsRow X1.heap.size 36 2 (.slice (some ⟨X1.heap.size, 0, none⟩) 0 0) 0 []) := hid (World.ownsRow_lit (base := X1.heap.size) (size := 2) (e := 36) X1 #[] 0 (Nat.le_refl _) (by unfold maxLen; omega) rfl)
        have HW4 := hid (HWX.out.alloc HWX.out.size (.cells #[] 36))
        have HC1 := hid (HV.out.here HW4).cells
        have HN := hid hN; clear hN
        have HS4 : X1.heap.size ≤ (X1.alloc (.cells #[] 36)).heap.size := by simp
        go_upto_region 10 with (at_builtin; refine wpList_append_maybe rfl (.tmp 49) (.tmp 50) 22 rfl X1.heap.size 36 i0 (.agg #[.int .i64 0, .int .i64 0]) 2 16 Try.underlying22 hi hz0 hz1 hz2 rfl (by decide) _ _ _ rfl HO4.out A n c (insCells l) rfl HN.out (by rw [insCells_len, HL.out]) HC1.out (insCells_one _) (by unfold maxLen; omega) (by omega) HS4 ?_; intro vb w5 hown5 hg5; simp only [Nat.zero_add, List.nil_append] at hown5; have HB5 := hid (((Below.refl X1.heap.size X1).alloc (Nat.le_refl _) (.cells #[] 36)).grown hg5 (by simp) (fun k hk => (HO4.out.lt k hk).1)); obtain ⟨g, cap, rfl, hg0, hg1, hcap, _, hcq, hfq⟩ := own_cell hown5 (by omega); have HOWN := hid hown5; clear hg5 hown5)
        obtain ⟨i1, i2⟩ := insCells_at l k (by rw [HL.out]; exact hkn)
        have q0 := (hcq (k * 2) (by omega)).trans i1
        have q1 := (hcq (k * 2 + 1) (by omega)).trans i2
        have g0 := hfq (k * 2)
        have g1 := hfq (k * 2 + 1)
        clear hcq hfq i1 i2 HO4 HC1 HW4
        have hB3 := HX1.out.trans (HB5.out.mono (by omega))
        have j0 := ((bcell hB3).1 _ _ l3).trans j0
        have j1 := ((bcell hB3).1 _ _ l3).trans j1
        have HV6 : Hid (SlV ((w5.setCell ⟨g, k * 2, none⟩ (.int .i64 o)).setCell ⟨g, k * 2 + 1, none⟩ (.int .i64 a)) ((w5.setCell ⟨g, k * 2, none⟩ (.int .i64 o)).setCell ⟨g, k * 2 + 1, none⟩ (.int .i64 a)).heap.size (.slice (some ⟨g, 0, none⟩) n cap) (l.set k (o, a))) := hid (own_set2 (by have := HOWN.out; rw [← HL.out] at this ⊢; exact this) HL.out hkn o a)
        have HB6 : Hid (Below X1.heap.size X1 ((w5.setCell ⟨g, k * 2, none⟩ (.int .i64 o)).setCell ⟨g, k * 2 + 1, none⟩ (.int .i64 a))) := hid ((HB5.out.setCell hg0 _).setCell hg0 _)
        clear hB3 HOWN
        go_upto_region 11 with fail
        clear j0 j1 q0 q1 g0 g1 hcap
        generalize (w5.setCell ⟨g, k * 2, none⟩ (.int .i64 o)).setCell ⟨g, k * 2 + 1, none⟩ (.int .i64 a) = w6 at HV6 HB6 ⊢
        go_wp2_with fail
        refine (check_any _ _ _ HS' (by rw [List.length_set, HL.out]; omega) w6 HV6.out).mono ?_
        rintro e w7 ⟨v2, rfl, hsl2, hb7⟩
        have HB7 := hid (HB6.out.trans (hb7.mono HB6.out.size))
        clear hb7 HV6 HB6 HB5
        obtain ⟨A2, c2, rfl, hcc2, hA2⟩ := hsl2
        simp only at hcc2 hA2 ⊢
        rw [HDL.out] at hcc2 ⊢
        obtain ⟨b2, o2, rfl, hbB2, hcell2⟩ := hA2 (by rw [HDL.out]; omega)
        have HCELL2 := hid hcell2
        clear hA2 hcell2
        have hneq := neq_flags
        have HDX := hid (HX1.out.trans (HB7.out.mono (by omega)))
        have r0 := ((bcell HB7.out).1 _ _ lX1).trans r0
        have r1 := ((bcell HB7.out).1 _ _ lX1).trans r1
        have r2 := ((bcell HB7.out).1 _ _ lX1).trans r2
        have r3 := ((bcell HB7.out).1 _ _ lX1).trans r3
        have r4 := ((bcell HB7.out).1 _ _ lX1).trans r4
        have lX7 := Nat.lt_of_lt_of_le lX1 HB7.out.size
        have HW7 := hid (HWX.out.trans (HB7.out.mono HWX.out.size))
        go_upto_block 0 with fail
        clear hneq r1 r2 r3 r4 hi hz0 hz1 hz2 HN HS4
        obtain ⟨X8, hX8, ⟨s0, s1, s2, s3, s4⟩, sf, ss, HX8⟩ := box5_of w7 27 (.slice (some ⟨b2, o2, none⟩) n c2) (.int .i64 mx') (.int .i64 em') (.bool u0') (.bool u1')
        rw [hX8]; clear hX8 s1 s2 s3 s4 sf
        have l8 : w7.heap.size < X8.heap.size := by omega
        clear ss
        have r0 := ((bcell HX8.out).1 _ _ lX7).trans r0
        have HD8 := hid (HDX.out.trans (HX8.out.mono (by have := HDX.out.size; omega)))
        have HW8 := hid (HW7.out.trans (HX8.out.mono HW7.out.size))
        have hlr : w3.heap.size < X8.heap.size := by omega
        have hb1 : b1 < X8.heap.size := by omega
        have hb2 : b2 < X8.heap.size := by omega
        clear lX7 lX1 hX13 l3 HDX HWX
        go_wp2_with fail
        go_loopw [87] (fun i wr => ∃ j : Nat, j ≤ n ∧ i = .int .i64 j ∧ Hid (Below X8.heap.size X8 wr)) (fun i _ => n - (RowKit.intOf i).toNat)
        case atStart => exact ⟨0, Nat.zero_le _, rfl, hid (Below.refl _ _)⟩
        case round =>
          obtain ⟨j, hj, rfl, hbel⟩ := hrel
          by_cases hlt : j < n
          · obtain ⟨y, hy⟩ : ∃ y, D'.getD j 0 = y := ⟨_, rfl⟩
            have e1 := HCELL.out j (by rw [HDL.out]; exact hlt)
            have e2 := HCELL2.out j (by rw [HDL.out]; exact hlt)
            rw [hy] at e1 e2
            clear hy
            have e1 := ((bcell HD8.out).1 _ _ hbB).trans e1
            have e2 := ((bcell HX8.out).1 _ _ hbB2).trans e2
            have e1 := ((bcell hbel.out).1 _ _ hb1).trans e1
            have e2 := ((bcell hbel.out).1 _ _ hb2).trans e2
            have r0 := ((bcell hbel.out).1 _ _ hlr).trans r0
            have s0 := ((bcell hbel.out).1 _ _ l8).trans s0
            have hjn : (j : Int) < (n : Int) := by omega
            have hj0 : (0 : Int) ≤ (j : Int) := by omega
            go_upto_region 17 with fail
            go_quiet (fail)
            go_wp2_with fail
            go_roundw
            case rel => exact ⟨j + 1, by omega, by go_num, hid (below_drewN' hbel.out _)⟩
            case measure => simp [RowKit.intOf]; omega
          · obtain rfl : j = n := by omega
            go_wp2_with fail
            go_ret
            exact ⟨rfl, HW8.out.trans (hbel.out.mono HW8.out.size)⟩
      · have hxn : (x == -1) = false := by simpa using hx1
        have hxm : (x != -1) = true := by simpa using hx1
        go_wp2_with fail
        go_ret
        exact ⟨rfl, HW3.out.alloc HW3.out.size _⟩

end Go.Proofs.Ytnhibimpolamoaa
