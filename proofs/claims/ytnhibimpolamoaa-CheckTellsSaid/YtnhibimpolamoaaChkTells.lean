/- Layer 5, check: the walk of CheckTells, over the contract of the document's Check. -/
import Derived.Test.YtnhibimpolamoaaChkL
import Derived.Test.YtnhibimpolamoaaRefB
import Derived.Deep.CutBlock
import Derived.Deep.DeepCutAuto
import Derived.Deep.RegionLaw
import Derived.Test.YtnhibimpolamoaaRegK
namespace Go.Proofs.Ytnhibimpolamoaa
open Go.RowKit Go.Lib
set_option linter.unusedVariables false

/-- What the document's Check is asked for. -/
def RefSpec : Prop := ∀ (v : Value) (l : List (Int × Int)) (q : Option CkS), Hid (chk l = q) → l.length ≤ 1000000000000 → ∀ w : World, SlV w w.heap.size v l →
  Calls Try.prog 9 #[v] w fun e w' => RefPost w q e w'

/-- What the slots of the region of Safe and Passes hold. -/
def slots7 (v0 v4 : Value) (g3 g5 : Nat) (ok ps : Bool) (r30 r31 r32 r33 : Value) : List Ks :=
  .is v0 :: .any :: .any :: .is (.pointer (some ⟨g3, 0, none⟩)) :: .is v4 :: .is (.pointer (some ⟨g5, 0, none⟩)) :: .any :: .any :: .any :: .any :: .any :: .any :: .any :: .any :: .any :: .any :: .any :: .any :: .any :: .is v0 :: .is (.bool ok) :: .is (.pointer (some ⟨g5, 5, none⟩)) :: .is (.bool ok) :: .is (.bool false) :: .is (.bool false) :: .is v0 :: .is (.bool ps) :: .is (.pointer (some ⟨g5, 5, none⟩)) :: .is (.bool ok) :: .is (.bool ok) :: .is r30 :: .is r31 :: .is r32 :: .is r33 :: .is (.bool ps) :: .is (.bool false) :: .is (.bool false) :: []

theorem neq_flags3 (a b : Bool) (w : World) : (binOp .neq 25 (.agg #[.bool a, .bool b]) (.agg #[.bool a, .bool b])).run Try.prog w = .ok (.bool false) w := by
  cases a <;> cases b <;> kernel_rfl

set_option maxRecDepth 100000 in
set_option maxHeartbeats 4000000 in
theorem law_tells (href : RefSpec) (v : Value) (l : List (Int × Int)) (w : World) (hv : SnIn w v l) :
    Calls Try.prog 3 #[v] w fun e w' => e = .returned (.bool true) ∧ Below w.heap.size w w' := by
  have HREF := hid href; clear href
  have hm := hv.most
  unfold maxLen at hm
  have hr := hv.row
  obtain ⟨A, c, rfl, hc, _⟩ := hv.row
  clear hv
  obtain ⟨n, hn⟩ : ∃ n, l.length = n := ⟨_, rfl⟩
  rw [hn] at hm hc hr ⊢
  have HV := hid hr; have HL := hid hn
  clear hr
  go_enter Try.func3, Try.ntmps3
  go_wp2_with fail
  refine (awake5 w).mono ?_
  rintro e w1 ⟨rfl, hb⟩
  have HW1 := hid hb; clear hb
  by_cases h60 : 60 < n
  · have d1 : decide ((60 : Int) < (n : Int)) = true := decide_eq_true (by omega)
    go_wp2_with fail
    go_ret
    exact ⟨rfl, HW1.out⟩
  have d1 : decide ((60 : Int) < (n : Int)) = false := decide_eq_false (by omega)
  have hl : l.length ≤ 1000000000000 := by omega
  clear hn hm
  obtain ⟨q, hq⟩ : ∃ q, chk l = q := ⟨_, rfl⟩
  have HQ := hid hq; clear hq
  go_wp2_with fail
  clear d1
  refine (check_any _ l q HQ hl w1 (HV.out.here HW1)).mono ?_
  intro e w2 hp
  cases q with
  | none =>
    obtain ⟨rfl, hb⟩ := hp
    have HW2 := hid (HW1.out.trans (hb.mono HW1.out.size)); clear hb
    go_upto_region 6 with fail
    obtain ⟨X1, hX1, ⟨r0, r1, r2, r3, r4⟩, rf, rs, HX1⟩ := box5_of w2 27 (.slice none 0 0) (.int .i64 0) (.int .i64 0) (.bool false) (.bool false)
    rw [hX1]; clear hX1 rf
    have l1 : w2.heap.size < X1.heap.size := by omega
    clear rs
    have HWX := hid (HW2.out.trans (HX1.out.mono HW2.out.size))
    go_wp2_with fail
    refine (HREF.out _ l none HQ hl X1 (HV.out.here HWX)).mono ?_
    rintro e w3 ⟨rfl, hb⟩
    have HW3 := hid (HWX.out.trans (hb.mono HWX.out.size))
    have r0 := ((bcell hb).1 _ _ l1).trans r0
    have r1 := ((bcell hb).1 _ _ l1).trans r1
    have r2 := ((bcell hb).1 _ _ l1).trans r2
    have r3 := ((bcell hb).1 _ _ l1).trans r3
    have r4 := ((bcell hb).1 _ _ l1).trans r4
    have l3 := Nat.lt_of_lt_of_le l1 hb.size
    clear hb l1
    go_upto_region 7 with fail
    obtain ⟨X2, hX2, ⟨k0, k1, k2, k3, k4, k5⟩, kf, ks, HX2⟩ := box6_of w3 32 (.slice none 0 0) (.int .i64 0) (.int .i64 0) (.bool false) (.bool false) (.bool false)
    rw [hX2]; clear hX2 kf
    have lk : w3.heap.size < X2.heap.size := by omega
    clear ks
    have HW4 := hid (HW3.out.trans (HX2.out.mono HW3.out.size))
    have r0 := ((bcell HX2.out).1 _ _ l3).trans r0
    have r1 := ((bcell HX2.out).1 _ _ l3).trans r1
    have r2 := ((bcell HX2.out).1 _ _ l3).trans r2
    have r3 := ((bcell HX2.out).1 _ _ l3).trans r3
    have r4 := ((bcell HX2.out).1 _ _ l3).trans r4
    have l4 := Nat.lt_trans l3 lk
    have HVX := hid (HV.out.here HW4)
    have HSF : Hid ((chk l).isSome = false) := hid (by rw [HQ.out]; rfl)
    have HPS : Hid (passesB (chk l) = false) := hid (by rw [HQ.out]; rfl)
    have hff := eql_flags
    generalize w2.heap.size = g3 at r0 r1 r2 r3 r4 l4 ⊢
    generalize w3.heap.size = g5 at k0 k1 k2 k3 k4 k5 lk ⊢
    clear l3 HX2 HX1
    go_wp2_with fail
    refine region_all (T := fun k => ((slots7 (.slice A n c) (.int .i64 9) g3 g5 false false undef undef undef undef).getD k .any).ok) (G := fun w' => Hid (Below X2.heap.size X2 w')) (bs := [0, 3, 4, 5]) 114 (by kernel_rfl) rfl (by kernel_rfl) (fun k u w w' => Ks.stable _ u w w') (hid (Below.refl _ _).drew) ?_ ?_ ?_
    · refine List.forall_mem_cons.2 ⟨rfl, List.forall_mem_cons.2 ⟨rfl, List.forall_mem_cons.2 ⟨rfl, List.forall_mem_cons.2 ⟨rfl, ?_⟩⟩⟩⟩
      intro k hk; cases hk
    · repeat' (first | exact StepAll.nil | refine StepAll.append ?_ ?_ | refine StepAll.cons ?_ ?_)
      all_goals first
        | (refine .inl ⟨guard_none rfl, ?_⟩)
        | (refine .inl ⟨guard_some rfl rfl (fun u w h => h), ?_⟩)
        | (refine .inr ⟨guard_no rfl rfl (fun u w h => h), fun w _ d hd => ?_⟩; cases hd; exact rfl)
      all_goals intro K a w' hK hG H
      all_goals obtain ⟨hc, hf⟩ := bcell hG.out
      all_goals first
        | (obtain ⟨h1, h2, -⟩ := H; change a.tmps.getD _ undef = _ at h1; have g1 := h1; rw [Array.getD_eq_getD_getElem?] at g1; change a.tmps.getD _ undef = _ at h2; have g2 := h2; rw [Array.getD_eq_getD_getElem?] at g2)
        | (obtain ⟨h1, -⟩ := H; change a.tmps.getD _ undef = _ at h1; have g1 := h1; rw [Array.getD_eq_getD_getElem?] at g1)
        | skip
      all_goals go_simp
      all_goals first
        | (go_at_call 10; (with_reducible refine (safe_any _ l false HSF hl _ (HVX.out.here hG)).mono ?_); (rintro e w'' ⟨rfl, hb⟩; exact hK _ _ (fun d hd => by cases hd; exact rfl) (hid (hG.out.trans (hb.mono hG.out.size))) hb))
        | (go_at_call 11; (with_reducible refine (passes_any _ l false HPS hl _ (HVX.out.here hG)).mono ?_); (rintro e w'' ⟨rfl, hb⟩; exact hK _ _ (fun d hd => by cases hd; exact rfl) (hid (hG.out.trans (hb.mono hG.out.size))) hb))
        | exact hK _ _ (fun d hd => by cases hd; exact rfl) hG (Below.refl _ _)
        | skip
    · intro a w' hd hn hG hkeep hval
      have h0 : a.tmps.getD 0 undef = _ := hkeep 0 (by decide) (not_written (by kernel_rfl))
      have h3 : a.tmps.getD 3 undef = _ := hkeep 3 (by decide) (not_written (by kernel_rfl))
      have h4 : a.tmps.getD 4 undef = _ := hkeep 4 (by decide) (not_written (by kernel_rfl))
      have h5 : a.tmps.getD 5 undef = _ := hkeep 5 (by decide) (not_written (by kernel_rfl))
      have h36 : a.tmps.getD 36 undef = .bool false := hval 36 (by kernel_rfl)
      clear hval hkeep
      obtain ⟨u, hu⟩ : ∃ u : Nat → Value, u = fun k => a.tmps.getD k undef := ⟨_, rfl⟩
      have ha : a = ⟨(u 0 :: u 1 :: u 2 :: u 3 :: u 4 :: u 5 :: u 6 :: u 7 :: u 8 :: u 9 :: u 10 :: u 11 :: u 12 :: u 13 :: u 14 :: u 15 :: u 16 :: u 17 :: u 18 :: u 19 :: u 20 :: u 21 :: u 22 :: u 23 :: u 24 :: u 25 :: u 26 :: u 27 :: u 28 :: u 29 :: u 30 :: u 31 :: u 32 :: u 33 :: u 34 :: u 35 :: u 36 :: u 37 :: u 38 :: u 39 :: u 40 :: u 41 :: u 42 :: u 43 :: u 44 :: u 45 :: u 46 :: u 47 :: u 48 :: u 49 :: u 50 :: u 51 :: u 52 :: u 53 :: u 54 :: u 55 :: u 56 :: u 57 :: u 58 :: u 59 :: u 60 :: u 61 :: u 62 :: u 63 :: u 64 :: u 65 :: u 66 :: u 67 :: u 68 :: u 69 :: u 70 :: u 71 :: u 72 :: u 73 :: u 74 :: u 75 :: u 76 :: u 77 :: u 78 :: u 79 :: u 80 :: u 81 :: u 82 :: u 83 :: u 84 :: u 85 :: u 86 :: u 87 :: u 88 :: u 89 :: u 90 :: u 91 :: u 92 :: u 93 :: u 94 :: u 95 :: u 96 :: u 97 :: u 98 :: u 99 :: u 100 :: u 101 :: u 102 :: u 103 :: u 104 :: u 105 :: u 106 :: u 107 :: u 108 :: u 109 :: u 110 :: u 111 :: u 112 :: u 113 :: []).toArray, a.defers⟩ := by
        rw [hu]; exact frame_eq hn
      have e0 : u 0 = .slice A n c := (congrFun hu 0).trans h0
      have e3 : u 3 = .pointer (some ⟨g3, 0, none⟩) := (congrFun hu 3).trans h3
      have e4 : u 4 = .int .i64 9 := (congrFun hu 4).trans h4
      have e5 : u 5 = .pointer (some ⟨g5, 0, none⟩) := (congrFun hu 5).trans h5
      have e36 : u 36 = .bool false := (congrFun hu 36).trans h36
      rw [e0, e3, e4, e5, e36, hd] at ha
      clear hd hn h0 h3 h4 h5 h36 hu
      subst ha
      clear e0 e3 e4 e5 e36
      have r0 := ((bcell hG.out).1 _ _ l4).trans r0
      have r1 := ((bcell hG.out).1 _ _ l4).trans r1
      have r2 := ((bcell hG.out).1 _ _ l4).trans r2
      have r3 := ((bcell hG.out).1 _ _ l4).trans r3
      have r4 := ((bcell hG.out).1 _ _ l4).trans r4
      have k5 := ((bcell hG.out).1 _ _ lk).trans k5
      clear k0 k1 k2 k3 k4
      go_wp2_with fail
      go_ret
      exact ⟨rfl, HW4.out.trans (hG.out.mono HW4.out.size)⟩
  | some s =>
    obtain ⟨D, E, mx, em, u0, u1⟩ := s
    obtain ⟨v1, rfl, hsl, hb⟩ := hp
    have HDL : Hid (D.length = n) := hid (by rw [(chk_some HQ.out).2.len, HL.out])
    obtain ⟨A2, c2, rfl, hc2, hA2⟩ := hsl
    simp only at hc2 hA2 ⊢
    rw [HDL.out] at hc2 hA2 ⊢
    have HA2 := hid hA2; clear hA2
    have HW2 := hid (HW1.out.trans (hb.mono HW1.out.size)); clear hb
    go_upto_region 6 with fail
    obtain ⟨X1, hX1, ⟨r0, r1, r2, r3, r4⟩, rf, rs, HX1⟩ := box5_of w2 27 (.slice A2 n c2) (.int .i64 mx) (.int .i64 em) (.bool u0) (.bool u1)
    rw [hX1]; clear hX1 rf
    have l1 : w2.heap.size < X1.heap.size := by omega
    clear rs
    have HWX := hid (HW2.out.trans (HX1.out.mono HW2.out.size))
    go_wp2_with fail
    refine (HREF.out _ l _ HQ hl X1 (HV.out.here HWX)).mono ?_
    rintro e w3 ⟨v2, rfl, hsl, hb⟩
    obtain ⟨A3, c3, rfl, hc3, hA3⟩ := hsl
    simp only at hc3 hA3 ⊢
    rw [HDL.out] at hc3 hA3 ⊢
    have HA3 := hid hA3; clear hA3
    have HW3 := hid (HWX.out.trans (hb.mono HWX.out.size))
    have r0 := ((bcell hb).1 _ _ l1).trans r0
    have r1 := ((bcell hb).1 _ _ l1).trans r1
    have r2 := ((bcell hb).1 _ _ l1).trans r2
    have r3 := ((bcell hb).1 _ _ l1).trans r3
    have r4 := ((bcell hb).1 _ _ l1).trans r4
    have l3 := Nat.lt_of_lt_of_le l1 hb.size
    have HB23 := hid (HX1.out.trans (hb.mono (Nat.le_of_lt l1)))
    clear hb l1
    go_upto_region 7 with fail
    obtain ⟨X2, hX2, ⟨k0, k1, k2, k3, k4, k5⟩, kf, ks, HX2⟩ := box6_of w3 32 (.slice A3 n c3) (.int .i64 mx) (.int .i64 em) (.bool u0) (.bool u1) (.bool true)
    rw [hX2]; clear hX2 kf
    have lk : w3.heap.size < X2.heap.size := by omega
    clear ks
    have HW4 := hid (HW3.out.trans (HX2.out.mono HW3.out.size))
    have HB2X := hid (HB23.out.trans (HX2.out.mono HB23.out.size))
    have r0 := ((bcell HX2.out).1 _ _ l3).trans r0
    have r1 := ((bcell HX2.out).1 _ _ l3).trans r1
    have r2 := ((bcell HX2.out).1 _ _ l3).trans r2
    have r3 := ((bcell HX2.out).1 _ _ l3).trans r3
    have r4 := ((bcell HX2.out).1 _ _ l3).trans r4
    have l4 := Nat.lt_trans l3 lk
    have HVX := hid (HV.out.here HW4)
    obtain ⟨ps, hps⟩ : ∃ b, ((u0 == false) && (u1 == false)) = b := ⟨_, rfl⟩
    have HSF : Hid ((chk l).isSome = true) := hid (by rw [HQ.out]; rfl)
    have HPS : Hid (passesB (chk l) = ps) := hid (by rw [HQ.out]; exact hps)
    have hff : ∀ w : World, (binOp .eql 25 (.agg #[.bool u0, .bool u1]) (.agg #[.bool false, .bool false])).run Try.prog w = .ok (.bool ps) w := fun w => by rw [← hps]; exact eql_flags u0 u1 false false w
    have hnf := neq_flags3 u0 u1
    clear hps
    have hsz2 : w2.heap.size ≤ X2.heap.size := HB2X.out.size
    have hsz3 : w3.heap.size ≤ X2.heap.size := Nat.le_of_lt lk
    obtain ⟨g3, hg3⟩ : ∃ g, w2.heap.size = g := ⟨_, rfl⟩
    obtain ⟨g5, hg5⟩ : ∃ g, w3.heap.size = g := ⟨_, rfl⟩
    have HC2 : Hid (∀ j, j < n → ∃ b o, A2 = some ⟨b, o, none⟩ ∧ b < X2.heap.size ∧ X2.cell? ⟨b, o + j, none⟩ = some (.int .i64 (D.getD j 0))) := hid (fun j hj => by
      obtain ⟨b, o, e, hb, hz⟩ := HA2.out (by omega)
      exact ⟨b, o, e, by omega, ((bcell HB2X.out).1 _ _ hb).trans (hz j hj)⟩)
    have HC3 : Hid (∀ j, j < n → ∃ b o, A3 = some ⟨b, o, none⟩ ∧ b < X2.heap.size ∧ X2.cell? ⟨b, o + j, none⟩ = some (.int .i64 (D.getD j 0))) := hid (fun j hj => by
      obtain ⟨b, o, e, hb, hz⟩ := HA3.out (by omega)
      exact ⟨b, o, e, by omega, ((bcell HX2.out).1 _ _ hb).trans (hz j hj)⟩)
    rw [hg3] at r0 r1 r2 r3 r4 l4 ⊢
    rw [hg5] at k0 k1 k2 k3 k4 k5 lk ⊢
    clear l3 HX2 HX1 HB2X HB23 HA2 HA3 hsz2 hsz3 hg3 hg5
    go_wp2_with fail
    refine region_all (T := fun k => ((slots7 (.slice A n c) (.int .i64 0) g3 g5 true ps (.pointer (some ⟨g5, 3, none⟩)) (.agg #[.bool u0, .bool u1]) (.agg #[.bool false, .bool false]) (.bool ps)).getD k .any).ok) (G := fun w' => Hid (Below X2.heap.size X2 w')) (bs := [0, 3, 4, 5]) 114 (by kernel_rfl) rfl (by kernel_rfl) (fun k u w w' => Ks.stable _ u w w') (hid (Below.refl _ _).drew) ?_ ?_ ?_
    · refine List.forall_mem_cons.2 ⟨rfl, List.forall_mem_cons.2 ⟨rfl, List.forall_mem_cons.2 ⟨rfl, List.forall_mem_cons.2 ⟨rfl, ?_⟩⟩⟩⟩
      intro k hk; cases hk
    · repeat' (first | exact StepAll.nil | refine StepAll.append ?_ ?_ | refine StepAll.cons ?_ ?_)
      all_goals first
        | (refine .inl ⟨guard_none rfl, ?_⟩)
        | (refine .inl ⟨guard_some rfl rfl (fun u w h => h), ?_⟩)
        | (refine .inr ⟨guard_no rfl rfl (fun u w h => h), fun w _ d hd => ?_⟩; cases hd; exact rfl)
      all_goals intro K a w' hK hG H
      all_goals obtain ⟨hc, hf⟩ := bcell hG.out
      all_goals first
        | (obtain ⟨h1, h2, -⟩ := H; change a.tmps.getD _ undef = _ at h1; have g1 := h1; rw [Array.getD_eq_getD_getElem?] at g1; change a.tmps.getD _ undef = _ at h2; have g2 := h2; rw [Array.getD_eq_getD_getElem?] at g2)
        | (obtain ⟨h1, -⟩ := H; change a.tmps.getD _ undef = _ at h1; have g1 := h1; rw [Array.getD_eq_getD_getElem?] at g1)
        | skip
      all_goals go_simp
      all_goals first
        | (go_at_call 10; (with_reducible refine (safe_any _ l true HSF hl _ (HVX.out.here hG)).mono ?_); (rintro e w'' ⟨rfl, hb⟩; exact hK _ _ (fun d hd => by cases hd; exact rfl) (hid (hG.out.trans (hb.mono hG.out.size))) hb))
        | (go_at_call 11; (with_reducible refine (passes_any _ l ps HPS hl _ (HVX.out.here hG)).mono ?_); (rintro e w'' ⟨rfl, hb⟩; exact hK _ _ (fun d hd => by cases hd; exact rfl) (hid (hG.out.trans (hb.mono hG.out.size))) hb))
        | exact hK _ _ (fun d hd => by cases hd; exact rfl) hG (Below.refl _ _)
        | skip
    · intro a w' hd hn hG hkeep hval
      have h0 : a.tmps.getD 0 undef = _ := hkeep 0 (by decide) (not_written (by kernel_rfl))
      have h3 : a.tmps.getD 3 undef = _ := hkeep 3 (by decide) (not_written (by kernel_rfl))
      have h4 : a.tmps.getD 4 undef = _ := hkeep 4 (by decide) (not_written (by kernel_rfl))
      have h5 : a.tmps.getD 5 undef = _ := hkeep 5 (by decide) (not_written (by kernel_rfl))
      have h36 : a.tmps.getD 36 undef = .bool false := hval 36 (by kernel_rfl)
      clear hval hkeep
      obtain ⟨u, hu⟩ : ∃ u : Nat → Value, u = fun k => a.tmps.getD k undef := ⟨_, rfl⟩
      have ha : a = ⟨(u 0 :: u 1 :: u 2 :: u 3 :: u 4 :: u 5 :: u 6 :: u 7 :: u 8 :: u 9 :: u 10 :: u 11 :: u 12 :: u 13 :: u 14 :: u 15 :: u 16 :: u 17 :: u 18 :: u 19 :: u 20 :: u 21 :: u 22 :: u 23 :: u 24 :: u 25 :: u 26 :: u 27 :: u 28 :: u 29 :: u 30 :: u 31 :: u 32 :: u 33 :: u 34 :: u 35 :: u 36 :: u 37 :: u 38 :: u 39 :: u 40 :: u 41 :: u 42 :: u 43 :: u 44 :: u 45 :: u 46 :: u 47 :: u 48 :: u 49 :: u 50 :: u 51 :: u 52 :: u 53 :: u 54 :: u 55 :: u 56 :: u 57 :: u 58 :: u 59 :: u 60 :: u 61 :: u 62 :: u 63 :: u 64 :: u 65 :: u 66 :: u 67 :: u 68 :: u 69 :: u 70 :: u 71 :: u 72 :: u 73 :: u 74 :: u 75 :: u 76 :: u 77 :: u 78 :: u 79 :: u 80 :: u 81 :: u 82 :: u 83 :: u 84 :: u 85 :: u 86 :: u 87 :: u 88 :: u 89 :: u 90 :: u 91 :: u 92 :: u 93 :: u 94 :: u 95 :: u 96 :: u 97 :: u 98 :: u 99 :: u 100 :: u 101 :: u 102 :: u 103 :: u 104 :: u 105 :: u 106 :: u 107 :: u 108 :: u 109 :: u 110 :: u 111 :: u 112 :: u 113 :: []).toArray, a.defers⟩ := by
        rw [hu]; exact frame_eq hn
      have e0 : u 0 = .slice A n c := (congrFun hu 0).trans h0
      have e3 : u 3 = .pointer (some ⟨g3, 0, none⟩) := (congrFun hu 3).trans h3
      have e4 : u 4 = .int .i64 0 := (congrFun hu 4).trans h4
      have e5 : u 5 = .pointer (some ⟨g5, 0, none⟩) := (congrFun hu 5).trans h5
      have e36 : u 36 = .bool false := (congrFun hu 36).trans h36
      rw [e0, e3, e4, e5, e36, hd] at ha
      clear hd hn h0 h3 h4 h5 h36 hu
      subst ha
      clear e0 e3 e4 e5 e36
      have r0 := ((bcell hG.out).1 _ _ l4).trans r0
      have r1 := ((bcell hG.out).1 _ _ l4).trans r1
      have r2 := ((bcell hG.out).1 _ _ l4).trans r2
      have r3 := ((bcell hG.out).1 _ _ l4).trans r3
      have r4 := ((bcell hG.out).1 _ _ l4).trans r4
      have k0 := ((bcell hG.out).1 _ _ lk).trans k0
      have k1 := ((bcell hG.out).1 _ _ lk).trans k1
      have k2 := ((bcell hG.out).1 _ _ lk).trans k2
      have k3 := ((bcell hG.out).1 _ _ lk).trans k3
      have k4 := ((bcell hG.out).1 _ _ lk).trans k4
      have k5 := ((bcell hG.out).1 _ _ lk).trans k5
      clear hff
      go_upto_block 0 with fail
      clear k1 k2 k3 k4 k5 r1 r2 r3 r4 hnf
      have l4' := Nat.lt_of_lt_of_le l4 hG.out.size
      have lk' := Nat.lt_of_lt_of_le lk hG.out.size
      go_wp2_with fail
      go_loopw [99] (fun i wr => ∃ j : Nat, j ≤ n ∧ i = .int .i64 j ∧ Hid (Below w'.heap.size w' wr)) (fun i _ => n - (RowKit.intOf i).toNat)
      case atStart => exact ⟨0, Nat.zero_le _, rfl, hid (Below.refl _ _)⟩
      case round =>
        obtain ⟨j, hj, rfl, hbel⟩ := hrel
        by_cases hlt : j < n
        · obtain ⟨b2, o2, rfl, hb2, f2⟩ := HC2.out j hlt
          obtain ⟨b3, o3, rfl, hb3, f3⟩ := HC3.out j hlt
          obtain ⟨y, hy⟩ : ∃ y, D.getD j 0 = y := ⟨_, rfl⟩
          rw [hy] at f2 f3
          clear hy
          have f2 := ((bcell hbel.out).1 _ _ (Nat.lt_of_lt_of_le hb2 hG.out.size)).trans (((bcell hG.out).1 _ _ hb2).trans f2)
          have f3 := ((bcell hbel.out).1 _ _ (Nat.lt_of_lt_of_le hb3 hG.out.size)).trans (((bcell hG.out).1 _ _ hb3).trans f3)
          have r0 := ((bcell hbel.out).1 _ _ l4').trans r0
          have k0 := ((bcell hbel.out).1 _ _ lk').trans k0
          have hjn : (j : Int) < (n : Int) := by omega
          have hj0 : (0 : Int) ≤ (j : Int) := by omega
          go_upto_region 16 with fail
          go_quiet (fail)
          go_wp2_with fail
          go_roundw
          case rel => exact ⟨j + 1, by omega, by go_num, hid (below_drewN' hbel.out _)⟩
          case measure => simp [RowKit.intOf]; omega
        · obtain rfl : j = n := by omega
          go_wp2_with fail
          go_ret
          exact ⟨rfl, HW4.out.trans ((hG.out.trans (hbel.out.mono hG.out.size)).mono HW4.out.size)⟩

end Go.Proofs.Ytnhibimpolamoaa
