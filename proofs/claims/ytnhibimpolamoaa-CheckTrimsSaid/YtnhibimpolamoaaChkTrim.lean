/- Layer 5, check: the walk of CheckTrims. -/
import Derived.Test.YtnhibimpolamoaaTrmM
import Derived.Test.YtnhibimpolamoaaChkL
import Derived.Deep.CutBlock
namespace Go.Proofs.Ytnhibimpolamoaa
open Go.RowKit Go.Lib
set_option linter.unusedVariables false

theorem neq_flags2 (a b : Bool) (w : World) : (binOp .neq 25 (.agg #[.bool a, .bool b]) (.agg #[.bool a, .bool b])).run Try.prog w = .ok (.bool false) w := by
  cases a <;> cases b <;> kernel_rfl

theorem neq_ins2 (a b : Int) (w : World) : (binOp .neq 36 (val a b) (val a b)).run Try.prog w = .ok (.bool false) w := by
  rw [run_neq_struct, run_equalIn_struct w 9999 36 _ _ (by kernel_rfl) (by kernel_rfl)]
  have hf : (Try.prog.fieldsOf 36).toList = [{ name := "Op", type := 3, offset := 0, embedded := false, tag := "", pkgPath := "", byteOffset := 0 }, { name := "A", type := 3, offset := 1, embedded := false, tag := "", pkgPath := "", byteOffset := 8 }] := by kernel_rfl
  rw [hf]
  simp [Op.eqFields, part, isAgg, go_sem, Try.underlying3]

/-- The places of a row of instructions. -/
def InsAt (w : World) (b o : Nat) (q : List (Int × Int)) : Prop :=
  ∀ j, j < q.length → w.cell? ⟨b, o + j * 2, none⟩ = some (.int .i64 (q.getD j (0, 0)).1) ∧ w.cell? ⟨b, o + j * 2 + 1, none⟩ = some (.int .i64 (q.getD j (0, 0)).2)

set_option maxRecDepth 100000 in
set_option maxHeartbeats 4000000 in
theorem law_trims (v : Value) (l : List (Int × Int)) (w : World) (hv : SnIn w v l) :
    Calls Try.prog 6 #[v] w fun e w' => e = .returned (.bool true) ∧ Below w.heap.size w w' := by
  have hm := hv.most
  unfold maxLen at hm
  have hr := hv.row
  obtain ⟨A, c, rfl, hc, _⟩ := hv.row
  clear hv
  obtain ⟨n, hn⟩ : ∃ n, l.length = n := ⟨_, rfl⟩
  rw [hn] at hm hc hr ⊢
  have HV := hid hr; have HL := hid hn
  clear hr
  go_enter Try.func6, Try.ntmps6
  go_wp2_with fail
  refine (awake5 w).mono ?_
  rintro e w1 ⟨rfl, hb⟩
  have HW1 := hid hb; clear hb
  by_cases h60 : 60 < n
  · have d1 : decide ((60 : Int) < (n : Int)) = true := decide_eq_true (by omega)
    go_wp2_with fail
    go_ret
    exact ⟨rfl, HW1.out⟩
  have d1 : decide ((60 : Int) < (n : Int)) = false := decide_eq_false (by omega)
  obtain ⟨q0, hq⟩ : ∃ q, chk l = q := ⟨_, rfl⟩
  have HQ := hid hq; clear hq
  go_wp2_with fail
  clear d1
  refine (trim_any _ l q0 HQ (by omega) w1 (HV.out.here HW1)).mono ?_
  intro e w2 hp
  cases q0 with
  | none =>
    obtain ⟨rfl, hb⟩ := hp
    have HW2 := hid (HW1.out.trans (hb.mono HW1.out.size)); clear hb
    go_wp2_with fail
    refine (check_any _ l none HQ (by omega) w2 (HV.out.here HW2)).mono ?_
    rintro e w3 ⟨rfl, hb⟩
    have HW3 := hid (HW2.out.trans (hb.mono HW2.out.size)); clear hb
    go_wp2_with fail
    go_ret
    exact ⟨rfl, HW3.out.alloc HW3.out.size _⟩
  | some s =>
    obtain ⟨v1, rfl, hsl, hb⟩ := hp
    have HW2 := hid (HW1.out.trans (hb.mono HW1.out.size))
    clear hb HW1
    obtain ⟨⟨D', E', mx', em', u0', u1'⟩, hs', e1, e2, e3, hD, hT⟩ := chk_trim HQ.out
    have hle : (trimL l s).length ≤ n := by rw [← hn]; exact tmTo_le l (stTo l s.D l.length) l.length
    obtain ⟨q, hqq⟩ : ∃ q, trimL l s = q := ⟨_, rfl⟩
    rw [hqq] at hs' hD hT hle hsl
    clear hqq
    obtain ⟨D, E, mx, em, u0, u1⟩ := s
    simp only at e1 e2 e3 hD
    subst e1; subst e2; subst e3
    have HS' := hid hs'
    have HT := hid hT
    have hDl := (chk_some hs').2.len
    simp only at hDl
    have HSL := hid hsl
    obtain ⟨A1, c1, rfl, hc1, hA1⟩ := hsl
    obtain ⟨m, hm2⟩ : ∃ m, q.length = m := ⟨_, rfl⟩
    rw [hm2] at hDl hle hc1 HSL hD hA1 ⊢
    have HQL := hid hm2
    have HDL := hid hDl
    have HD := hid hD
    have HA1 := hid hA1
    clear hs' hT hDl hm2 hD hA1
    go_wp2_with fail
    refine (check_any _ l _ HQ (by omega) w2 (HV.out.here HW2)).mono ?_
    rintro e w3 ⟨v2, rfl, hsl, hb⟩
    have HB23 := hid hb
    have HW3 := hid (HW2.out.trans (hb.mono HW2.out.size))
    clear hb
    obtain ⟨A2, c2, rfl, _, _⟩ := hsl
    simp only
    obtain ⟨dl, hdl⟩ : ∃ m, D.length = m := ⟨_, rfl⟩
    rw [hdl]; clear hdl
    go_upto_region 9 with fail
    obtain ⟨X1, hX1, ⟨r0, r1, r2, r3, r4⟩, rf, rs, HX1⟩ := box5_of w3 27 (.slice A2 dl c2) (.int .i64 mx) (.int .i64 em') (.bool u0') (.bool u1')
    rw [hX1]; clear hX1 rf
    have l1 : w3.heap.size < X1.heap.size := by omega
    clear rs
    have HBX := hid (HB23.out.trans (HX1.out.mono HB23.out.size))
    have HWX := hid (HW3.out.trans (HX1.out.mono HW3.out.size))
    clear HB23 HW3 HX1
    have HL2 : Hid (q.length ≤ 1000000000000) := hid (by rw [HQL.out]; omega)
    go_wp2_with fail
    refine (check_any _ q _ HS' HL2.out X1 (HSL.out.here HBX)).mono ?_
    rintro e w4 ⟨v3, rfl, hsl, hb⟩
    obtain ⟨hc4, hf4⟩ := bcell hb
    have r0 := (hc4 _ _ l1).trans r0
    have r1 := (hc4 _ _ l1).trans r1
    have r2 := (hc4 _ _ l1).trans r2
    have r3 := (hc4 _ _ l1).trans r3
    have r4 := (hc4 _ _ l1).trans r4
    have l1 := Nat.lt_of_lt_of_le l1 hb.size
    have HB4 := hid (HBX.out.trans (hb.mono HBX.out.size))
    have HW4 := hid (HWX.out.trans (hb.mono HWX.out.size))
    clear hc4 hf4 hb HBX HWX
    obtain ⟨A3, c3, rfl, hc3, hA3⟩ := hsl
    simp only at hc3 hA3 ⊢
    rw [HDL.out] at hc3 hA3 ⊢
    have HA3 := hid hA3; clear hA3
    go_upto_region 10 with fail
    obtain ⟨X2, hX2, ⟨s0, s1, s2, s3, s4⟩, sf, ss, HX2⟩ := box5_of w4 27 (.slice A3 m c3) (.int .i64 mx') (.int .i64 em') (.bool u0') (.bool u1')
    rw [hX2]; clear hX2 sf
    have l2 : w4.heap.size < X2.heap.size := by omega
    clear ss
    obtain ⟨hc4, hf4⟩ := bcell HX2.out
    have r0 := (hc4 _ _ l1).trans r0
    have r1 := (hc4 _ _ l1).trans r1
    have r2 := (hc4 _ _ l1).trans r2
    have r3 := (hc4 _ _ l1).trans r3
    have r4 := (hc4 _ _ l1).trans r4
    have l1 := Nat.lt_of_lt_of_le l1 HX2.out.size
    have HB5 := hid (HB4.out.trans (HX2.out.mono HB4.out.size))
    have HW5 := hid (HW4.out.trans (HX2.out.mono HW4.out.size))
    clear hc4 hf4 HB4 HW4
    go_wp2_with fail
    refine (trim_any _ q _ HS' HL2.out X2 (HSL.out.here HB5)).mono ?_
    rintro e w6 ⟨v4, rfl, hsl, hb⟩
    obtain ⟨hc4, hf4⟩ := bcell hb
    have r0 := (hc4 _ _ l1).trans r0
    have r1 := (hc4 _ _ l1).trans r1
    have r2 := (hc4 _ _ l1).trans r2
    have r3 := (hc4 _ _ l1).trans r3
    have r4 := (hc4 _ _ l1).trans r4
    have s0 := (hc4 _ _ l2).trans s0
    have s1 := (hc4 _ _ l2).trans s1
    have s2 := (hc4 _ _ l2).trans s2
    have s3 := (hc4 _ _ l2).trans s3
    have s4 := (hc4 _ _ l2).trans s4
    have l2 := Nat.lt_of_lt_of_le l2 hb.size
    have HB46 := hid (HX2.out.trans (hb.mono HX2.out.size))
    have HB6 := hid (HB5.out.trans (hb.mono HB5.out.size))
    have HW6 := hid (HW5.out.trans (hb.mono HW5.out.size))
    clear hc4 hf4 hb HB5 HW5 l1 HX2
    rw [HT.out] at hsl
    obtain ⟨A4, c4, rfl, hc4, hA4⟩ := hsl
    rw [HQL.out] at hc4 hA4 ⊢
    have HA4 := hid hA4; clear hA4
    have hnf := neq_flags2 u0' u1'
    have hmn : (m : Int) ≤ (n : Int) := by omega
    go_upto_block 0 with fail
    clear r0 r1 r2 r3 r4 s1 s2 s3 s4 hnf
    go_wp2_with fail
    go_loopw [88] (fun i wr => ∃ j : Nat, j ≤ m ∧ i = .int .i64 j ∧ Hid (Below w6.heap.size w6 wr)) (fun i _ => m - (RowKit.intOf i).toNat)
    case atStart => exact ⟨0, Nat.zero_le _, rfl, hid (Below.refl _ _)⟩
    case round =>
      obtain ⟨j, hj, rfl, hbel⟩ := hrel
      by_cases hlt : j < m
      · obtain ⟨b1, o1, rfl, hb1, f1⟩ := HA1.out (by omega)
        obtain ⟨b3, o3, rfl, hb3, f3⟩ := HA3.out (by omega)
        obtain ⟨b4, o4, rfl, hb4, f4⟩ := HA4.out (by omega)
        obtain ⟨f1, g1⟩ := f1 j hlt
        have f3 := f3 j hlt
        obtain ⟨f4, g4⟩ := f4 j hlt
        obtain ⟨o, a, hoa⟩ := pair_of (p := q.getD j (0, 0))
        rw [hoa] at f1 g1 f4 g4
        clear hoa
        have hy0 := HD.out j hlt
        obtain ⟨y, hy⟩ : ∃ y, D'.getD j 0 = y := ⟨_, rfl⟩
        rw [hy] at f3 hy0
        clear hy
        have f1 := ((bcell hbel.out).1 _ _ (Nat.lt_of_lt_of_le hb1 HB6.out.size)).trans (((bcell HB6.out).1 _ _ hb1).trans f1)
        have g1 := ((bcell hbel.out).1 _ _ (Nat.lt_of_lt_of_le hb1 HB6.out.size)).trans (((bcell HB6.out).1 _ _ hb1).trans g1)
        have f3 := ((bcell hbel.out).1 _ _ (Nat.lt_of_lt_of_le hb3 HB46.out.size)).trans (((bcell HB46.out).1 _ _ hb3).trans f3)
        have f4 := ((bcell hbel.out).1 _ _ hb4).trans f4
        have g4 := ((bcell hbel.out).1 _ _ hb4).trans g4
        have s0 := ((bcell hbel.out).1 _ _ l2).trans s0
        have hjn : (j : Int) < (m : Int) := by omega
        have hj0 : (0 : Int) ≤ (j : Int) := by omega
        have hni := neq_ins2 o a
        have hd0 : decide (y < 0) = false := decide_eq_false (by omega)
        go_upto_region 16 with fail
        go_quiet (fail)
        go_wp2_with fail
        go_roundw
        case rel => exact ⟨j + 1, by omega, by go_num, hid (below_drewN' hbel.out _)⟩
        case measure => simp [RowKit.intOf]; omega
      · obtain rfl : j = m := by omega
        go_wp2_with fail
        go_ret
        exact ⟨rfl, HW6.out.trans (hbel.out.mono HW6.out.size)⟩

end Go.Proofs.Ytnhibimpolamoaa
