/- Layer 6, vm: VmTrims. -/
import Derived.Test.YtfohdoahddommaaDoorVmL
import Derived.Test.YtfohdoahddommaaDoorVmT
namespace Go.Proofs.YtfohdoahddommaaDoor
open Go.RowKit Go.Lib
set_option linter.unusedVariables false
set_option maxRecDepth 100000

theorem all_one {c0 c1 : Int × Int} {x : Int × Int} : (rgtB c0 && rgtB c1 && [x].all rgtB) = (rgtB c0 && rgtB c1 && rgtB x) := by simp

/-- What comes of the trimmed one, if the whole runs. -/
theorem trims_ok {l : List (Int × Int)} {s : CkS} (hs : chk l = some s) {x : Int × Int} {c0 c1 : Int × Int} (h2 : (rgtB c0 && rgtB c1 && [x].all rgtB) = true) {F F' : VmS} (hF : eachS l [x] ⟨[], [], c0, c1, 0⟩ = F) (hF' : eachS (trimL l s) [x] ⟨[], [], c0, c1, 0⟩ = F') :
    F.out = F'.out ∧ F.c0 = F'.c0 ∧ F.c1 = F'.c1 ∧ F'.n ≤ F.n := by
  rw [all_one] at h2
  simp only [Bool.and_eq_true, rgtB_iff] at h2
  have h := trim_run hs (v := x) h2.2 (x := ⟨[], [], c0, c1, 0⟩) ⟨by simp, by simp, h2.1.1, h2.1.2⟩
  have e : runS l x ⟨[], [], c0, c1, 0⟩ = F := hF
  have e' : runS (trimL l s) x ⟨[], [], c0, c1, 0⟩ = F' := hF'
  rw [e, e'] at h
  exact ⟨h.out.symm, h.c0.symm, h.c1.symm, h.n⟩

theorem trimL_short {l : List (Int × Int)} {s : CkS} (h : chk l = some s) : (trimL l s).length ≤ 24 := by
  obtain ⟨s', hs', _⟩ := chk_trim h
  exact ((fitsL_iff _).1 (chk_some hs').1).1

set_option maxHeartbeats 1500000 in
theorem law_trims (v : Value) (l : List (Int × Int)) (x y a b c d : Int) (w : World) (hv : SvIn w v l) (hx : (Lit.int .i64 x).wf = true) (hy : (Lit.int .i64 y).wf = true) (hab : I64 a ∧ I64 b) (hcd : I64 c ∧ I64 d) (he : Env4 w) :
    Calls Tryd.prog 6 #[v, val x y, .agg #[.int .i64 a, .int .i64 b, .int .i64 c, .int .i64 d]] w fun e w' => e = .returned (.bool true) ∧ Below w.heap.size w w' := by
  have HXY := hid (i64_both hx hy); have HAB := hid hab; have HCD := hid hcd; have HE := hid he
  clear hx hy hab hcd he
  obtain ⟨hsl, _, _⟩ := hv
  have HV := hid hsl
  obtain ⟨A0, cc0, rfl, _, _⟩ := hsl
  obtain ⟨W, hW, HB, HX⟩ := law_boxes w x y a b c d 24 25
  go_enter Tryd.func6, Tryd.ntmps6
  go_wp2_with fail
  clear hW
  refine (awake6 W (HE.out.below HB.out)).mono ?_
  rintro e w1 ⟨rfl, hb⟩
  have HB1 := hid (HB.out.trans (hb.mono HB.out.size))
  have HX1 := hid (HX.out.below hb)
  clear hb HB HX
  by_cases hlen : 60 < l.length
  · go_wp2_with fail
    go_ret
    exact ⟨rfl, HB1.out⟩
  · have hlen' : ¬ (60 : Int) < (l.length : Int) := by omega
    go_wp2_with fail
    refine (trim_any _ l _ (hid rfl) (by omega) w1 ((HV.out.below HB1.out).mono HB1.out.size)).mono ?_
    intro e w2 hp
    cases hch : chk l with
    | none =>
      rw [hch] at hp
      obtain ⟨rfl, hb⟩ := hp
      have HB2 := hid (HB1.out.trans (hb.mono HB1.out.size))
      have HX2 := hid (HX1.out.below hb)
      have ⟨_, k0, k1, q0, q1, q2, q3⟩ := HX2.out
      clear hb HB1 HX1
      go_wp2_with fail
      refine (vrun_any _ l (by omega) x y a b c d HXY.out HAB.out HCD.out w2 ((HV.out.below HB2.out).mono HB2.out.size)).mono ?_
      rintro e w3 ⟨⟨r, rfl, hr⟩, hb⟩
      have HB3 := hid (HB2.out.trans (hb.mono HB2.out.size))
      clear hb
      cases hr with
      | code h =>
        go_wp2_with fail
        go_ret
        exact ⟨rfl, HB3.out.alloc HB3.out.size _⟩
      | arg h h2 => rw [hch] at h; cases h
      | ok h h2 vo F hF ho => rw [hch] at h; cases h
    | some s =>
      rw [hch] at hp
      obtain ⟨vq, rfl, hvq, hb⟩ := hp
      have HB2 := hid (HB1.out.trans (hb.mono HB1.out.size))
      have HX2 := hid (HX1.out.below hb)
      have HQ2 := hid hvq
      have HCH := hid hch
      obtain ⟨Aq, cq, rfl, _, _⟩ := hvq
      have ⟨_, k0, k1, q0, q1, q2, q3⟩ := HX2.out
      clear hb HB1 HX1 hch
      go_wp2_with fail
      refine (vrun_any _ l (by omega) x y a b c d HXY.out HAB.out HCD.out w2 ((HV.out.below HB2.out).mono HB2.out.size)).mono ?_
      rintro e w3 ⟨⟨r, rfl, hr⟩, hb⟩
      have HB3 := hid (HB2.out.trans (hb.mono HB2.out.size))
      have HX3 := hid (HX2.out.below hb)
      have HQ3 := hid ((HQ2.out.below hb).mono hb.size)
      clear hb k0 k1 q0 q1 q2 q3 HB2 HX2 HQ2
      cases hr with
      | code h => rw [HCH.out] at h; cases h
      | arg h h2 =>
        go_wp2_with fail
        go_ret
        exact ⟨rfl, HB3.out.alloc HB3.out.size _⟩
      | ok h h2 vo F hF ho =>
        obtain ⟨Ao, co, rfl⟩ := own_form ho
        have hb4 := (Below.refl w3.heap.size w3).alloc (Nat.le_refl _) (.cells #[.slice Ao F.out.length co, .int .i64 F.c0.1, .int .i64 F.c0.2, .int .i64 F.c1.1, .int .i64 F.c1.2, .int .i64 F.n] 29)
        have HR4 := hid (Res6.new w3 (.slice Ao F.out.length co) F.c0.1 F.c0.2 F.c1.1 F.c1.2 F.n 29)
        have HB4 := hid (HB3.out.trans (hb4.mono HB3.out.size))
        have HX4 := hid (HX3.out.below hb4)
        have HQ4 := hid ((HQ3.out.below hb4).mono hb4.size)
        have HO4 := hid (own_below ho hb4)
        have HH2 := hid h2; have HF := hid hF
        clear hb4 ho h2 hF h HB3 HQ3
        have ⟨l3, k0, k1, q0, q1, q2, q3⟩ := HX3.out
        have l3' : w.heap.size < w3.heap.size := Nat.lt_of_succ_lt l3
        go_wp2_with fail
        refine (vrun_any _ (trimL l s) (Nat.le_trans (trimL_short HCH.out) (by decide)) x y a b c d HXY.out HAB.out HCD.out (w3.alloc (.cells #[.slice Ao F.out.length co, .int .i64 F.c0.1, .int .i64 F.c0.2, .int .i64 F.c1.1, .int .i64 F.c1.2, .int .i64 F.n] 29)) HQ4.out).mono ?_
        rintro e w5 ⟨⟨r, rfl, hr⟩, hb⟩
        have HB5 := hid (HB4.out.trans (hb.mono HB4.out.size))
        have HR5 := hid (HR4.out.below hb)
        have HO5 := hid (own_below HO4.out hb)
        clear hb k0 k1 q0 q1 q2 q3 l3 l3' HB4 HX4 HQ4 HO4 HR4 HX3
        obtain ⟨s', hs', _⟩ := chk_trim HCH.out
        cases hr with
        | code h => rw [hs'] at h; cases h
        | arg h h2 => rw [HH2.out] at h2; cases h2
        | ok h h2 vo F' hF' ho' =>
          obtain ⟨t1, t2, t3, t4⟩ := trims_ok HCH.out HH2.out HF.out hF'
          obtain ⟨Ao', co', rfl⟩ := own_form ho'
          have hb6 := (Below.refl w5.heap.size w5).alloc (Nat.le_refl _) (.cells #[.slice Ao' F'.out.length co', .int .i64 F'.c0.1, .int .i64 F'.c0.2, .int .i64 F'.c1.1, .int .i64 F'.c1.2, .int .i64 F'.n] 29)
          have HR6 := hid (Res6.new w5 (.slice Ao' F'.out.length co') F'.c0.1 F'.c0.2 F'.c1.1 F'.c1.2 F'.n 29)
          have HR6' := hid (HR5.out.below hb6)
          have HB6 := hid (HB5.out.trans (hb6.mono HB5.out.size))
          have HO6 := hid (own_below HO5.out hb6)
          have HO6' := hid (own_below ho' hb6)
          have T1 := hid t1; have T4 := hid t4
          have hq : ∀ w : World, (binOp .eql 25 (.agg #[.int .i64 F.c0.1, .int .i64 F.c0.2, .int .i64 F.c1.1, .int .i64 F.c1.2]) (.agg #[.int .i64 F'.c0.1, .int .i64 F'.c0.2, .int .i64 F'.c1.1, .int .i64 F'.c1.2])).run Tryd.prog w = .ok (.bool true) w := fun w => by
            rw [eql_arr, t2, t3]; simp
          have ⟨l5, r0, r1, r2, r3, r4, r5⟩ := HR5.out
          have hsm : F.out.length ≤ 1000000000 ∧ F'.out.length ≤ 1000000000 := by
            have hh := HH2.out
            simp only [Bool.and_eq_true] at hh
            have := (each_small (l := l) (ins := [(x, y)]) (c0 := (a, b)) (c1 := (c, d)) (by rw [HCH.out]; rfl) (by rw [hh.1.1, hh.1.2]; rfl) hh.2 (by simp) 1).2.2.2.1
            rw [show ([(x, y)] : List (Int × Int)).take 1 = [(x, y)] from rfl, HF.out] at this
            rw [← t1]
            exact ⟨by omega, by omega⟩
          have HSM := hid hsm
          clear hb6 ho' t1 t2 t3 t4 h h2 hF' hs' hsm
          go_wp2_with fail
          refine (same_any _ _ F.out F'.out true (hid (decide_eq_true T1.out)) HSM.out.1 HSM.out.2 (w5.alloc (.cells #[.slice Ao' F'.out.length co', .int .i64 F'.c0.1, .int .i64 F'.c0.2, .int .i64 F'.c1.1, .int .i64 F'.c1.2, .int .i64 F'.n] 29)) (SlV.of_own HO6.out) (SlV.of_own HO6'.out)).mono ?_
          rintro e w7 ⟨rfl, hb⟩
          have HB7 := hid (HB6.out.trans (hb.mono HB6.out.size))
          have ⟨_, a0, a1, a2, a3, a4, a5⟩ := HR6.out.below hb
          have ⟨_, b0, b1, b2, b3, b4, b5⟩ := HR6'.out.below hb
          clear hb r0 r1 r2 r3 r4 r5
          go_wp2_with fail
          go_ret
          exact ⟨ret_bool (decide_eq_true T4.out), HB7.out⟩

end Go.Proofs.YtfohdoahddommaaDoor
