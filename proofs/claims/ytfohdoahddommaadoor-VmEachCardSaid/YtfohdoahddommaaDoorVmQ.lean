/- Layer 6, vm: VmBounds. -/
import Derived.Test.YtfohdoahddommaaDoorVmL
namespace Go.Proofs.YtfohdoahddommaaDoor
open Go.RowKit Go.Lib
set_option linter.unusedVariables false
set_option maxRecDepth 100000

def usesB (l : List (Int × Int)) : Bool := l.any fun x => x.1 == 5

theorem usesB_snoc {l : List (Int × Int)} {k : Nat} (h : k < l.length) : usesB (l.take (k + 1)) = (usesB (l.take k) || (l.getD k (0, 0)).1 == 5) := by
  unfold usesB
  rw [List.take_succ_eq_append_getElem h, List.any_append, List.getD_eq_getElem?_getD, List.getElem?_eq_getElem h]
  simp

/-- What is known of a run. -/
theorem run_known {l : List (Int × Int)} {x : Int × Int} {c0 c1 : Int × Int} (h : (chk l).isSome = true) (h2 : (rgtB c0 && rgtB c1 && [x].all rgtB) = true) {F : VmS} (hF : eachS l [x] ⟨[], [], c0, c1, 0⟩ = F) :
    l.length ≤ 24 ∧ F.n ≤ l.length ∧ F.out.length ≤ 4 ∧ F.out.all rgtB = true ∧ rgtB F.c0 = true ∧ rgtB F.c1 = true ∧ (usesB l = false → F.c0 = c0 ∧ F.c1 = c1) := by
  obtain ⟨s, hs⟩ := Option.isSome_iff_exists.1 h
  obtain ⟨hf, sem⟩ := chk_some hs
  simp only [List.all_cons, List.all_nil, Bool.and_true, Bool.and_eq_true, rgtB_iff] at h2
  have e : runS l x ⟨[], [], c0, c1, 0⟩ = F := hF
  obtain ⟨a, b, c⟩ := run_bounds sem.good hf h2.2 (s := ⟨[], [], c0, c1, 0⟩) ⟨by simp, by simp, h2.1.1, h2.1.2⟩
  rw [e] at a b c
  simp only [List.length_nil] at b c
  refine ⟨((fitsL_iff l).1 hf).1, by omega, by omega, List.all_eq_true.2 fun y hy => (rgtB_iff y).2 (a.out y hy), (rgtB_iff _).2 a.c0, (rgtB_iff _).2 a.c1, fun hu => ?_⟩
  have hno : ∀ t, t < l.length → opAt l t ≠ 5 := by
    intro t ht q
    have : usesB l = true := List.any_eq_true.2 ⟨l[t], List.getElem_mem ht, by
      unfold opAt at q
      rw [List.getD_eq_getElem?_getD, List.getElem?_eq_getElem ht] at q
      simpa using q⟩
    rw [hu] at this
    cases this
  have := fin_cells hno x (l.length - 0) 0 ⟨[], [], c0, c1, 0⟩
  rw [← e]
  exact this

set_option maxHeartbeats 1500000 in
theorem law_bounds (v : Value) (l : List (Int × Int)) (x y a b c d : Int) (w : World) (hv : SvIn w v l) (hx : (Lit.int .i64 x).wf = true) (hy : (Lit.int .i64 y).wf = true) (hab : I64 a ∧ I64 b) (hcd : I64 c ∧ I64 d) (he : Env4 w) :
    Calls Tryd.prog 4 #[v, val x y, .agg #[.int .i64 a, .int .i64 b, .int .i64 c, .int .i64 d]] w fun e w' => e = .returned (.bool true) ∧ Below w.heap.size w w' := by
  have HXY := hid (i64_both hx hy); have HAB := hid hab; have HCD := hid hcd; have HE := hid he
  clear hx hy hab hcd he
  obtain ⟨hsl, _, _⟩ := hv
  have HV := hid hsl
  obtain ⟨A0, cc0, rfl, hcc, hA⟩ := hsl
  have HA := hid hA; clear hA
  obtain ⟨W, hW, HB, HX⟩ := law_boxes w x y a b c d 24 25
  go_enter Tryd.func4, Tryd.ntmps4
  go_wp2_with fail
  clear hW
  refine (awake6 W (HE.out.below HB.out)).mono ?_
  rintro e w1 ⟨rfl, hb⟩
  have HB1 := hid (HB.out.trans (hb.mono HB.out.size))
  have HX1 := hid (HX.out.below hb)
  clear hb HB HX
  by_cases hlen : 60 < l.length
  · go_wp2_with fail
    go_ret
    exact ⟨rfl, HB1.out⟩
  · have hlen' : ¬ (60 : Int) < (l.length : Int) := by omega
    have ⟨_, k0, k1, q0, q1, q2, q3⟩ := HX1.out
    go_wp2_with fail
    refine (vrun_any _ l (by omega) x y a b c d HXY.out HAB.out HCD.out w1 ((HV.out.below HB1.out).mono HB1.out.size)).mono ?_
    rintro e w3 ⟨⟨r, rfl, hr⟩, hb⟩
    have HB3 := hid (HB1.out.trans (hb.mono HB1.out.size))
    have HX3 := hid (HX1.out.below hb)
    clear hb k0 k1 q0 q1 q2 q3 HX1 HB1
    cases hr with
    | code h =>
      go_wp2_with fail
      go_ret
      exact ⟨rfl, HB3.out.alloc HB3.out.size _⟩
    | arg h h2 =>
      go_wp2_with fail
      go_ret
      exact ⟨rfl, HB3.out.alloc HB3.out.size _⟩
    | ok h h2 vo F hF ho =>
      obtain ⟨n1, n2, n3, n4, n5, n6, n7⟩ := run_known h h2 hF
      obtain ⟨Ao, co, rfl⟩ := own_form ho
      have hb4 := (Below.refl w3.heap.size w3).alloc (Nat.le_refl _) (.cells #[.slice Ao F.out.length co, .int .i64 F.c0.1, .int .i64 F.c0.2, .int .i64 F.c1.1, .int .i64 F.c1.2, .int .i64 F.n] 29)
      have HR4 := Res6.new w3 (.slice Ao F.out.length co) F.c0.1 F.c0.2 F.c1.1 F.c1.2 F.n 29
      have HB4 := HB3.out.trans (hb4.mono HB3.out.size)
      have HX4 := HX3.out.below hb4
      have HO4 := own_below ho hb4
      have N4 := hid n4; have N5 := hid n5; have N6 := hid n6; have N7 := hid n7
      have HR4 := hid HR4; have HB4 := hid HB4; have HX4 := hid HX4; have HO4 := hid HO4
      clear h h2 hF ho hb4 n4 n5 n6 n7
      go_wp2_with fail
      obtain ⟨W4, hW4⟩ : ∃ W4, w3.alloc (.cells #[.slice Ao F.out.length co, .int .i64 F.c0.1, .int .i64 F.c0.2, .int .i64 F.c1.1, .int .i64 F.c1.2, .int .i64 F.n] 29) = W4 := ⟨_, rfl⟩
      obtain ⟨g4, hg4⟩ : ∃ g4, w3.heap.size = g4 := ⟨_, rfl⟩
      rw [hW4] at HR4 HB4 HX4 HO4 ⊢
      rw [hg4] at HR4 ⊢
      clear hW4 hg4 HB3 HX3
      go_loopw [9, 30] (fun u i wr => ∃ k : Nat, k ≤ l.length ∧ u = .bool (usesB (l.take k)) ∧ i = .int .i64 k ∧ Hid (Below W4.heap.size W4 wr)) (fun _ i _ => l.length - (RowKit.intOf i).toNat)
      case atStart => exact ⟨0, Nat.zero_le _, rfl, rfl, hid (Below.refl _ _)⟩
      case round =>
        obtain ⟨k, hk, rfl, rfl, HBk⟩ := hrel
        by_cases hlt : k < l.length
        · obtain ⟨b1, o1, rfl, hb1, hcell⟩ := HA.out (by omega)
          obtain ⟨ca, cb⟩ := hcell k hlt
          obtain ⟨o, ar, hoa⟩ := pair_of (p := l.getD k (0, 0))
          rw [hoa] at ca cb
          simp only at ca cb
          have HOA := hid hoa
          have HBB := hid (HB4.out.trans (HBk.out.mono HB4.out.size))
          have ca' := (HBB.out.cell (p := ⟨b1, o1 + k * 2, none⟩) hb1).trans ca
          have cb' := (HBB.out.cell (p := ⟨b1, o1 + k * 2 + 1, none⟩) hb1).trans cb
          have HBn := hid (HBk.out.alloc HBk.out.size (.cells #[.int .i64 o, .int .i64 ar] 37))
          have HUS : Hid (usesB (l.take (k + 1)) = (usesB (l.take k) || o == 5)) := hid (by rw [usesB_snoc hlt, hoa])
          clear ca cb hcell hoa
          obtain ⟨β, hβ⟩ : ∃ β, usesB (l.take k) = β := ⟨_, rfl⟩
          rw [hβ] at HUS ⊢
          clear hβ
          cases β with
          | true =>
            go_wp2_with fail
            go_roundw
            case rel => exact ⟨k + 1, by omega, by rw [HUS.out]; rfl, by go_num, HBn⟩
            case measure => simp [RowKit.intOf] <;> omega
          | false =>
            obtain ⟨γ, hγ⟩ : ∃ γ, (o == 5) = γ := ⟨_, rfl⟩
            have HG := hid hγ
            go_wp2_with fail
            go_roundw
            case rel => exact ⟨k + 1, by omega, by rw [HUS.out, HG.out]; rfl, by go_num, HBn⟩
            case measure => simp [RowKit.intOf] <;> omega
        · obtain ⟨β, hβ⟩ : ∃ β, usesB l = β := ⟨_, rfl⟩
          have hta : l.take k = l := List.take_of_length_le (by omega)
          rw [hta, hβ]
          have HBT := hid hβ
          clear hβ hta
          have ⟨_, r0, r1, r2, r3, r4, r5⟩ := HR4.out.below HBk.out
          go_wp2_with fail
          clear r0 r1 r2 r3 r4 r5
          obtain ⟨wo, hwo⟩ : ∃ wo : World, wo = wr := ⟨_, rfl⟩
          rw [← hwo] at HBk ⊢
          clear hwo
          have HSO := hid (SlV.of_own HO4.out)
          obtain ⟨Ax, cx, hvx, _, hAx⟩ := HSO.out
          injection hvx with e1 e2 e3
          subst e1; subst e3
          have HAX := hid hAx
          clear hAx
          go_loopw [44] (fun i wr => ∃ k : Nat, k ≤ F.out.length ∧ i = .int .i64 k ∧ Hid (Below W4.heap.size W4 wr)) (fun i _ => F.out.length - (RowKit.intOf i).toNat)
          case atStart => exact ⟨0, Nat.zero_le _, rfl, HBk⟩
          case round =>
            obtain ⟨k2, hk2, rfl, HB2⟩ := hrel
            by_cases hlt2 : k2 < F.out.length
            · obtain ⟨b1, o1, rfl, hb1, hcell⟩ := HAX.out (by omega)
              obtain ⟨ca, cb⟩ := hcell k2 hlt2
              have hrg := (rgtB_iff _).2 (rg_getD (rg_all N4.out) k2)
              obtain ⟨p, q, hpq⟩ := pair_of (p := F.out.getD k2 (0, 0))
              rw [hpq] at ca cb hrg
              simp only at ca cb
              have HRG := hid hrg
              have ca' := (HB2.out.cell (p := ⟨b1, o1 + k2 * 2, none⟩) hb1).trans ca
              have cb' := (HB2.out.cell (p := ⟨b1, o1 + k2 * 2 + 1, none⟩) hb1).trans cb
              have HB5 := hid (HB2.out.alloc HB2.out.size (.cells #[.int .i64 p, .int .i64 q] 24))
              clear ca cb hcell hrg hpq
              go_wp2_with fail
              refine (lright_any p q true HRG _).mono ?_
              rintro e w6 ⟨rfl, hb6⟩
              have HB6 := hid (HB5.out.trans (hb6.mono HB5.out.size))
              clear hb6
              go_wp2_with fail
              go_roundw
              case rel => exact ⟨k2 + 1, by omega, by go_num, HB6⟩
              case measure => simp [RowKit.intOf] <;> omega
            · have ⟨_, r0, r1, r2, r3, r4, r5⟩ := HR4.out.below HB2.out
              have HBW := hid (HB4.out.trans (HB2.out.mono HB4.out.size))
              go_wp2_with fail
              refine (lright_any _ _ true N5 _).mono ?_
              rintro e w6 ⟨rfl, hb6⟩
              have HB6 := hid (HB2.out.trans (hb6.mono HB2.out.size))
              have HBW6 := hid (HBW.out.trans (hb6.mono HBW.out.size))
              have ⟨_, s0, s1, s2, s3, s4, s5⟩ := HR4.out.below HB6.out
              clear r0 r1 r2 r3 r4 r5 hb6
              go_wp2_with fail
              refine (lright_any _ _ true N6 _).mono ?_
              rintro e w7 ⟨rfl, hb7⟩
              have HB7 := hid (HB6.out.trans (hb7.mono HB6.out.size))
              have HBW7 := hid (HBW6.out.trans (hb7.mono HBW6.out.size))
              have ⟨_, t0, t1, t2, t3, t4, t5⟩ := HR4.out.below HB7.out
              have ⟨_, k0, k1, q0, q1, q2, q3⟩ := HX4.out.below HB7.out
              clear s0 s1 s2 s3 s4 s5 hb7
              cases β with
              | true =>
                go_wp2_with fail
                go_ret
                exact ⟨rfl, HBW7.out⟩
              | false =>
                obtain ⟨m1, m2⟩ := N7.out HBT.out
                have hq : ∀ w : World, (binOp .eql 25 (.agg #[.int .i64 F.c0.1, .int .i64 F.c0.2, .int .i64 F.c1.1, .int .i64 F.c1.2]) (.agg #[.int .i64 a, .int .i64 b, .int .i64 c, .int .i64 d])).run Tryd.prog w = .ok (.bool true) w := fun w => by
                  rw [eql_arr, m1, m2]; simp
                clear m1 m2
                go_wp2_with fail
                go_ret
                exact ⟨rfl, HBW7.out⟩

end Go.Proofs.YtfohdoahddommaaDoor
