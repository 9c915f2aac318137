/- Layer 5, check: the walk of CheckJoins. -/
import Derived.Test.YtnhibimpolamoaaChkL
import Derived.Test.YtnhibimpolamoaaChkJ
import Derived.Deep.CutBlock
namespace Go.Proofs.Ytnhibimpolamoaa
open Go.RowKit Go.Lib
set_option linter.unusedVariables false

def StraightTo (p : List (Int × Int)) (k : Nat) : Prop := ∀ t, t < k → opAt p t ≠ 0 ∧ opAt p t ≠ 15 ∧ opAt p t ≠ 16

theorem depF_in {p : List (Int × Int)} (k : Nat) : k ≤ p.length → -2 * (k : Int) ≤ depF p k ∧ depF p k ≤ 2 * (k : Int) := by
  induction k with
  | zero => intro _; unfold depF; simp
  | succ k ih =>
    intro h
    obtain ⟨i1, i2⟩ := ih (by omega)
    have h1 := tk_lo (opAt p k)
    have h2 := lv_lo (opAt p k)
    have h3 : lvI (opAt p k) ≤ 2 := by unfold lvI; split <;> (try split) <;> omega
    have h4 : tkI (opAt p k) ≤ 2 := by unfold tkI; split <;> (try split) <;> omega
    rw [depF_succ (p := p) (k := k) (by omega)]
    unfold addI
    constructor <;> omega

set_option maxRecDepth 100000 in
set_option maxHeartbeats 8000000 in
theorem law_joins5 (v1 : Value) (p : List (Int × Int)) (v2 : Value) (q : List (Int × Int)) (cut : Int) (w : World) (hv1 : SnIn w v1 p) (hv2 : SnIn w v2 q) (hcut : (Lit.int .u8 cut).wf = true) :
    Calls Try.prog 4 #[v1, v2, .int .u8 cut] w fun e w' => e = .returned (.bool true) ∧ Below w.heap.size w w' := by
  have hm1 := hv1.most
  have hm2 := hv2.most
  unfold maxLen at hm1 hm2
  have hr1 := hv1.row; have hr2 := hv2.row
  obtain ⟨A1, c1, rfl, hc1, hA1⟩ := hv1.row
  obtain ⟨A2, c2, rfl, hc2, _⟩ := hv2.row
  have hN1 : A1 = none → p.length = 0 ∧ c1 = 0 := fun h => hv1.nil _ _ (by rw [h])
  have hN2 : A2 = none → q.length = 0 ∧ c2 = 0 := fun h => hv2.nil _ _ (by rw [h])
  clear hv1 hv2
  obtain ⟨n1, hn1⟩ : ∃ n, p.length = n := ⟨_, rfl⟩
  obtain ⟨n2, hn2⟩ : ∃ n, q.length = n := ⟨_, rfl⟩
  rw [hn1] at hm1 hc1 hr1 hN1 hA1 ⊢
  rw [hn2] at hm2 hc2 hr2 hN2 ⊢
  have HV1 := hid hr1; have HV2 := hid hr2; have HN1 := hid hN1; have HN2 := hid hN2; have HA1 := hid hA1
  have HL1 := hid hn1; have HL2 := hid hn2
  clear hr1 hr2 hN1 hN2 hA1
  have hcu : 0 ≤ cut ∧ cut ≤ 255 := by
    simp [Lit.wf, IntKind.min, IntKind.max, IntKind.signed, IntKind.bits] at hcut
    omega
  clear hcut
  obtain ⟨hcu0, hcu1⟩ := hcu
  obtain ⟨ct, rfl⟩ : ∃ k : Nat, cut = (k : Int) := ⟨cut.toNat, by omega⟩
  go_enter Try.func4, Try.ntmps4
  go_wp2_with fail
  refine (awake5 w).mono ?_
  rintro e w1 ⟨rfl, hb⟩
  have HW := hid hb; clear hb
  by_cases h60 : 24 < n1
  · have d1 : decide ((24 : Int) < (n1 : Int)) = true := decide_eq_true (by omega)
    go_wp2_with fail
    go_ret
    exact ⟨rfl, HW.out⟩
  have d1 : decide ((24 : Int) < (n1 : Int)) = false := decide_eq_false (by omega)
  by_cases h61 : 24 < n2
  · have d2 : decide ((24 : Int) < (n2 : Int)) = true := decide_eq_true (by omega)
    go_wp2_with fail
    go_ret
    exact ⟨rfl, HW.out⟩
  have d2 : decide ((24 : Int) < (n2 : Int)) = false := decide_eq_false (by omega)
  have hl1 : p.length ≤ 1000000000000 := by omega
  have hl2 : q.length ≤ 1000000000000 := by omega
  clear hm1 hm2 hn1 hn2
  cases hqa : chk p with
  | none =>
    have HQ := hid hqa; clear hqa
    go_wp2_with fail
    refine (safe_any _ p false (hid (by rw [HQ.out]; rfl)) hl1 _ (HV1.out.here HW)).mono ?_
    rintro e w2 ⟨rfl, hb⟩
    have HW2 := hid (HW.out.trans (hb.mono HW.out.size)); clear hb HW
    go_wp2_with fail
    go_ret
    exact ⟨rfl, HW2.out⟩
  | some a =>
    have HQ := hid hqa; clear hqa
    go_wp2_with fail
    refine (safe_any _ p true (hid (by rw [HQ.out]; rfl)) hl1 _ (HV1.out.here HW)).mono ?_
    rintro e w2 ⟨rfl, hb⟩
    have HW2 := hid (HW.out.trans (hb.mono HW.out.size)); clear hb HW
    obtain ⟨k, hk⟩ : ∃ k, ct % (n1 + 1) = k := ⟨_, rfl⟩
    have hkn : k ≤ n1 := by rw [← hk]; have := Nat.mod_lt ct (show 0 < n1 + 1 by omega); omega
    have hrem : Int.tmod (ct : Int) ((n1 : Int) + 1) = (k : Int) := by rw [← hk]; rfl
    have hrem2 : (ct : Int) % ((n1 : Int) + 1) = (k : Int) := by rw [← hk]; rfl
    clear hk d1 d2
    have hkc : k ≤ c1 := by omega
    go_wp2_with fail
    clear hrem hrem2
    refine (safe_any _ (p.take k) true (hid (chk_take HQ.out (by rw [HL1.out]; exact hkn))) (by rw [List.length_take]; omega) _ ((HV1.out.here HW2).take k (by rw [HL1.out]; exact hkn))).mono ?_
    rintro e w3 ⟨rfl, hb⟩
    have HW3 := hid (HW2.out.trans (hb.mono HW2.out.size)); clear hb HW2
    go_wp2_with fail
    go_loopw [7, 44] (fun d i wr => ∃ k : Nat, k ≤ n1 ∧ i = .int .i64 k ∧ d = .int .i64 (depF p k) ∧ Hid (StraightTo p k) ∧ Hid (Below w.heap.size w wr)) (fun _ i _ => n1 - (RowKit.intOf i).toNat)
    case atStart => exact ⟨0, Nat.zero_le _, rfl, rfl, hid (fun t ht => by omega), HW3⟩
    case round =>
      clear HW3
      obtain ⟨j, hj, rfl, rfl, hst, hbel⟩ := hrel
      by_cases hlt : j < n1
      · obtain ⟨b1, o1, rfl, hbB, hcell⟩ := HA1.out (by omega)
        obtain ⟨ca, cb⟩ := hcell j hlt
        obtain ⟨o, x, hoa⟩ := pair_of (p := p.getD j (0, 0))
        rw [hoa] at ca cb
        have HR := hid (ins_right (chk_some HQ.out).1 (by rw [HL1.out]; exact hlt) hoa)
        have HO : Hid (opAt p j = o) := hid (by unfold opAt; rw [hoa])
        have HOT : Hid (o ≠ 0 → o ≠ 15 → o ≠ 16 → StraightTo p (j + 1)) := hid (fun h0 h1 h2 t ht => by
          by_cases htj : t = j
          · subst htj; rw [HO.out]; exact ⟨h0, h1, h2⟩
          · exact hst.out t (by omega))
        clear hoa hcell
        have ca' := (hbel.out.cell (p := ⟨b1, o1 + j * 2, none⟩) hbB).trans ca
        have cb' := (hbel.out.cell (p := ⟨b1, o1 + j * 2 + 1, none⟩) hbB).trans cb
        clear ca cb
        obtain ⟨h0, h17, _, _⟩ := rightI_bounds HR.out
        simp only at h0 h17
        obtain ⟨dp, hdp⟩ : ∃ z, depF p j = z := ⟨_, rfl⟩
        have hdb := depF_in (p := p) j (by rw [HL1.out]; omega)
        rw [hdp] at hdb ⊢
        obtain ⟨hdb0, hdb1⟩ := hdb
        have HN : Hid (depF p (j + 1) = dp + addI o) := hid (by rw [depF_succ (by rw [HL1.out]; exact hlt), hdp, HO.out])
        clear hdp
        have HB2 := hid (hbel.out.alloc hbel.out.size (.cells #[.int .i64 o, .int .i64 x] 36))
        have hcs : o = 0 ∨ o = 15 ∨ o = 16 ∨ o = 1 ∨ o = 2 ∨ o = 3 ∨ o = 4 ∨ o = 5 ∨ o = 6 ∨ o = 7 ∨ o = 8 ∨ o = 9 ∨ o = 10 ∨ o = 11 ∨ o = 12 ∨ o = 13 ∨ o = 14 ∨ o = 17 := by omega
        clear h0 h17
        rcases hcs with rfl | rfl | rfl | hcs
        · go_wp2_with fail
          go_ret
          exact ⟨rfl, HB2.out⟩
        · go_wp2_with fail
          go_ret
          exact ⟨rfl, HB2.out⟩
        · go_wp2_with fail
          go_ret
          exact ⟨rfl, HB2.out⟩
        · rcases hcs with rfl | rfl | rfl | rfl | rfl | rfl | rfl | rfl | rfl | rfl | rfl | rfl | rfl | rfl | rfl
          all_goals
            have HS1 := hid (HOT.out (by decide) (by decide) (by decide))
            go_wp2_with fail
            go_roundw
            case rel => exact ⟨j + 1, by omega, by go_num, by rw [HN.out]; first | rfl | (simp only [show addI 9 = 0 from rfl, show addI 10 = 0 from rfl, show addI 12 = 0 from rfl, Int.add_zero]) | (congr 1), HS1, HB2⟩
            case measure => simp [RowKit.intOf]; omega
      · obtain rfl : j = n1 := by omega
        obtain ⟨dp, hdp⟩ : ∃ z, depF p j = z := ⟨_, rfl⟩
        have HDP := hid hdp
        rw [hdp]
        clear hdp
        have HST : Hid (Straight p) := hid (fun t ht => hst.out t (by rw [← HL1.out]; exact ht))
        have hdb := depF_in (p := p) j (by rw [HL1.out]; exact Nat.le_refl _)
        rw [HDP.out] at hdb
        obtain ⟨hdb0, hdb1⟩ := hdb
        clear hst
        go_wp2_with fail
        refine (check_any _ p (some a) HQ hl1 wr (HV1.out.here hbel)).mono ?_
        rintro e w4 ⟨va, rfl, hsl, hb⟩
        obtain ⟨Aa, ca, rfl, _, _⟩ := hsl
        have HW4 := hid (hbel.out.trans (hb.mono hbel.out.size)); clear hb hbel
        obtain ⟨D1, E1, mx1, em1, u01, u11⟩ := a
        simp only
        go_upto_region 30 with fail
        obtain ⟨X1, hX1, ⟨r0, r1, r2, r3, r4⟩, rf, rs, HX1⟩ := box5_of w4 27 (.slice Aa D1.length ca) (.int .i64 mx1) (.int .i64 em1) (.bool u01) (.bool u11)
        rw [hX1]; clear hX1 rf r0 r3 r4
        have lX1 : w4.heap.size < X1.heap.size := by omega
        clear rs
        have HWX := hid (HW4.out.trans (HX1.out.mono HW4.out.size))
        obtain ⟨qb, hqb⟩ : ∃ z, chk q = z := ⟨_, rfl⟩
        have HQB := hid hqb; clear hqb
        go_wp2_with fail
        refine (check_any _ q qb HQB hl2 X1 (HV2.out.here HWX)).mono ?_
        intro e w5 hp
        cases qb with
        | none =>
          obtain ⟨rfl, hb⟩ := hp
          have HW5 := hid (HWX.out.trans (hb.mono HWX.out.size)); clear hb
          go_upto_region 31 with fail
          obtain ⟨X2, hX2, t0, tf, ts, HX2⟩ := box5_of w5 27 (.slice none 0 0) (.int .i64 0) (.int .i64 0) (.bool false) (.bool false)
          rw [hX2]; clear hX2 t0 tf ts
          have HW6 := hid (HW5.out.trans (HX2.out.mono HW5.out.size))
          obtain ⟨i0, hi, hz0, hz1, hz2⟩ := info_parts insInfo
          have HO4 : Hid ((X2.alloc (.cells #[] 36)).ownsRow X2.heap.size 36 2 (.slice (some ⟨X2.heap.size, 0, none⟩) 0 0) 0 []) := hid (World.ownsRow_lit (base := X2.heap.size) (size := 2) (e := 36) X2 #[] 0 (Nat.le_refl _) (by unfold maxLen; omega) rfl)
          have HB4 := hid ((Below.refl X2.heap.size X2).alloc (Nat.le_refl _) (.cells #[] 36))
          have HC1 := hid (HV1.out.here (hid (HW6.out.trans (HB4.out.mono HW6.out.size)))).cells
          have HS4 : X2.heap.size ≤ (X2.alloc (.cells #[] 36)).heap.size := by simp
          go_upto_region 32 with (first | (at_builtin; refine wpList_append_maybe rfl (.tmp 92) (.tmp 93) 22 rfl X2.heap.size 36 i0 (.agg #[.int .i64 0, .int .i64 0]) 2 16 Try.underlying22 hi hz0 hz1 hz2 rfl (by decide) _ _ _ rfl HO4.out A1 j c1 (insCells p) rfl HN1.out (by rw [insCells_len, HL1.out]) HC1.out (insCells_one _) (by unfold maxLen; omega) (by omega) HS4 ?_; intro vb w6 hown5 hg5; simp only [Nat.zero_add, List.nil_append] at hown5; have HO5 := hid hown5; have HB5 := hid (HB4.out.grown hg5 HB4.out.size (fun k hk => (HO4.out.lt k hk).1)); have HS5 := Nat.le_trans HS4 hg5.size; have HC2 := hid (HV2.out.here (hid (HW6.out.trans (HB5.out.mono HW6.out.size)))).cells; clear hg5 hown5) | (at_builtin; refine wpList_append_maybe rfl (.tmp 94) (.tmp 95) 22 rfl X2.heap.size 36 i0 (.agg #[.int .i64 0, .int .i64 0]) 2 16 Try.underlying22 hi hz0 hz1 hz2 rfl (by decide) _ _ _ rfl HO5.out A2 n2 c2 (insCells q) rfl HN2.out (by rw [insCells_len, HL2.out]) HC2.out (insCells_one _) (by unfold maxLen; omega) (by omega) HS5 ?_; intro vc w7 hown6 hg6; have HO6 := hid hown6; have HB6 := hid (HB5.out.grown hg6 HB5.out.size (fun k hk => (HO5.out.lt k hk).1)); clear hg6 hown6))
          have HW7 := hid (HW6.out.trans (HB6.out.mono HW6.out.size))
          by_cases hd0 : dp = 0
          · subst hd0
            go_wp2_with fail
            go_ret
            exact ⟨rfl, HW7.out⟩
          · have m0 : (dp == 0) = false := by simpa using hd0
            have m1 : (dp != 0) = true := by simpa using hd0
            go_wp2_with fail
            go_ret
            exact ⟨rfl, HW7.out⟩
        | some b =>
          obtain ⟨vb1, rfl, hsl, hb⟩ := hp
          obtain ⟨Ab, cb1, rfl, _, _⟩ := hsl
          obtain ⟨D2, E2, mx2, em2, u02, u12⟩ := b
          simp only
          have HW5 := hid (HWX.out.trans (hb.mono HWX.out.size))
          have r1 := ((bcell hb).1 _ _ lX1).trans r1
          have r2 := ((bcell hb).1 _ _ lX1).trans r2
          have l5 := Nat.lt_of_lt_of_le lX1 hb.size
          clear hb lX1
          go_upto_region 31 with fail
          obtain ⟨X2, hX2, ⟨t0, t1, t2, t3, t4⟩, tf, ts, HX2⟩ := box5_of w5 27 (.slice Ab D2.length cb1) (.int .i64 mx2) (.int .i64 em2) (.bool u02) (.bool u12)
          rw [hX2]; clear hX2 tf t0 t3 t4
          have lX2 : w5.heap.size < X2.heap.size := by omega
          clear ts
          have r1 := ((bcell HX2.out).1 _ _ l5).trans r1
          have r2 := ((bcell HX2.out).1 _ _ l5).trans r2
          have l6 : w4.heap.size < X2.heap.size := by omega
          clear l5
          have HW6 := hid (HW5.out.trans (HX2.out.mono HW5.out.size))
          obtain ⟨i0, hi, hz0, hz1, hz2⟩ := info_parts insInfo
          have HO4 : Hid ((X2.alloc (.cells #[] 36)).ownsRow X2.heap.size 36 2 (.slice (some ⟨X2.heap.size, 0, none⟩) 0 0) 0 []) := hid (World.ownsRow_lit (base := X2.heap.size) (size := 2) (e := 36) X2 #[] 0 (Nat.le_refl _) (by unfold maxLen; omega) rfl)
          have HB4 := hid ((Below.refl X2.heap.size X2).alloc (Nat.le_refl _) (.cells #[] 36))
          have HC1 := hid (HV1.out.here (hid (HW6.out.trans (HB4.out.mono HW6.out.size)))).cells
          have HS4 : X2.heap.size ≤ (X2.alloc (.cells #[] 36)).heap.size := by simp
          go_upto_region 32 with (first | (at_builtin; refine wpList_append_maybe rfl (.tmp 92) (.tmp 93) 22 rfl X2.heap.size 36 i0 (.agg #[.int .i64 0, .int .i64 0]) 2 16 Try.underlying22 hi hz0 hz1 hz2 rfl (by decide) _ _ _ rfl HO4.out A1 j c1 (insCells p) rfl HN1.out (by rw [insCells_len, HL1.out]) HC1.out (insCells_one _) (by unfold maxLen; omega) (by omega) HS4 ?_; intro vb w6 hown5 hg5; simp only [Nat.zero_add, List.nil_append] at hown5; have HO5 := hid hown5; have HB5 := hid (HB4.out.grown hg5 HB4.out.size (fun k hk => (HO4.out.lt k hk).1)); have HS5 := Nat.le_trans HS4 hg5.size; have HC2 := hid (HV2.out.here (hid (HW6.out.trans (HB5.out.mono HW6.out.size)))).cells; clear hg5 hown5) | (at_builtin; refine wpList_append_maybe rfl (.tmp 94) (.tmp 95) 22 rfl X2.heap.size 36 i0 (.agg #[.int .i64 0, .int .i64 0]) 2 16 Try.underlying22 hi hz0 hz1 hz2 rfl (by decide) _ _ _ rfl HO5.out A2 n2 c2 (insCells q) rfl HN2.out (by rw [insCells_len, HL2.out]) HC2.out (insCells_one _) (by unfold maxLen; omega) (by omega) HS5 ?_; intro vc w7 hown6 hg6; have HO6 := hid hown6; have HB6 := hid (HB5.out.grown hg6 HB5.out.size (fun k hk => (HO5.out.lt k hk).1)); clear hg6 hown6))
          have HW7 := hid (HW6.out.trans (HB6.out.mono HW6.out.size))
          have r1 := ((bcell HB6.out).1 _ _ l6).trans r1
          have r2 := ((bcell HB6.out).1 _ _ l6).trans r2
          have t1 := ((bcell HB6.out).1 _ _ lX2).trans t1
          have t2 := ((bcell HB6.out).1 _ _ lX2).trans t2
          have l7 := Nat.lt_of_lt_of_le l6 HB6.out.size
          have lX7 := Nat.lt_of_lt_of_le lX2 HB6.out.size
          have hO := HO6.out
          clear HO6 HO5 HC1 HC2 HO4 HB5 HB4 HS4 HS5 l6 lX2
          obtain ⟨n, hn⟩ : ∃ n, j + n2 = n := ⟨_, rfl⟩
          obtain ⟨r, hr⟩ : ∃ r, p ++ q = r := ⟨_, rfl⟩
          have hrn : r.length = n := by rw [← hr, List.length_append, HL1.out, HL2.out, hn]
          rw [← insCells_append, hr, hn] at hO
          obtain ⟨A, c, rfl⟩ := own_form hO
          have hO2 : w7.ownsRow X2.heap.size 36 2 (.slice A n c) r.length (insCells r) := by rw [hrn]; exact hO
          have HV := hid (SlV.of_own hO2)
          have HR := hid hr; have HNN := hid hrn
          have hn48 : n ≤ 48 := by omega
          clear hr hrn hO hO2 hn hi hz0 hz1 hz2
          obtain ⟨_, sp⟩ := chk_some HQ.out
          obtain ⟨_, sq⟩ := chk_some HQB.out
          have b1 : 0 ≤ em1 ∧ em1 ≤ 4 := by obtain ⟨t, d, rr⟩ := sp.eme; have := sp.ok _ _ _ rr; simp only at this; omega
          have b2 : 0 ≤ em2 ∧ em2 ≤ 4 := by obtain ⟨t, d, rr⟩ := sq.eme; have := sq.ok _ _ _ rr; simp only at this; omega
          obtain ⟨b10, b11⟩ := b1
          obtain ⟨b20, b21⟩ := b2
          clear sp sq
          by_cases hd0 : dp = 0
          · subst hd0
            by_cases hn24 : 24 < n
            · have d1 : decide ((24 : Int) < (n : Int)) = true := decide_eq_true (by omega)
              go_wp2_with fail
              go_ret
              exact ⟨rfl, HW7.out⟩
            have d1 : decide ((24 : Int) < (n : Int)) = false := decide_eq_false (by omega)
            by_cases he4 : 4 < em1 + em2
            · go_wp2_with fail
              go_ret
              exact ⟨rfl, HW7.out⟩
            obtain ⟨⟨D3, E3, mx3, em3, u03, u13⟩, hc, hmx, hem⟩ := chk_joins HQ.out HQB.out HST.out (by rw [HL1.out]; exact HDP.out) (by rw [HR.out, HNN.out]; omega) (by simp only; omega)
            rw [HR.out] at hc
            simp only at hmx hem
            have HC := hid hc; clear hc
            go_wp2_with fail
            refine (check_any _ r _ HC (by rw [HNN.out]; omega) w7 (by have := HV.out; exact this)).mono ?_
            rintro e w8 ⟨v3, rfl, hsl, hb⟩
            obtain ⟨A3, c3, rfl, _, _⟩ := hsl
            simp only
            have r1 := ((bcell hb).1 _ _ l7).trans r1
            have r2 := ((bcell hb).1 _ _ l7).trans r2
            have t1 := ((bcell hb).1 _ _ lX7).trans t1
            have t2 := ((bcell hb).1 _ _ lX7).trans t2
            have l8 := Nat.lt_of_lt_of_le l7 hb.size
            have lX8 := Nat.lt_of_lt_of_le lX7 hb.size
            have HW8 := hid (HW7.out.trans (hb.mono HW7.out.size))
            clear hb d1
            by_cases hlm : mx1 < mx2
            · obtain rfl : mx3 = mx2 := hmx.trans (Int.max_eq_right (Int.le_of_lt hlm))
              subst hem
              clear hmx
              go_wp2_with fail
              go_ret
              exact ⟨rfl, HW8.out.alloc HW8.out.size _⟩
            · obtain rfl : mx3 = mx1 := hmx.trans (Int.max_eq_left (Int.not_lt.1 hlm))
              subst hem
              clear hmx
              go_wp2_with fail
              go_ret
              exact ⟨rfl, HW8.out.alloc HW8.out.size _⟩
          · have m0 : (dp == 0) = false := by simpa using hd0
            have m1 : (dp != 0) = true := by simpa using hd0
            go_wp2_with fail
            go_ret
            exact ⟨rfl, HW7.out⟩

end Go.Proofs.Ytnhibimpolamoaa
