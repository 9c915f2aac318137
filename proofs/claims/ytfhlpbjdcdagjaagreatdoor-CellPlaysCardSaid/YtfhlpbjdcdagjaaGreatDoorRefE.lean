/- Layer 5, check: the document's Check: its walk, the part ahead of that. -/
import Derived.Test.YtfhlpbjdcdagjaaGreatDoorRefD
import Derived.Deep.LoopGhost
import Derived.Deep.DeepCutAuto
import Derived.Deep.CutBlock
import Derived.Deep.QuietTactic
import Derived.BigQuiet
import Derived.BigRegion
import Derived.Maps.RangeWalk
import Derived.Deep.RegionHeld3
namespace Go.Proofs.YtfhlpbjdcdagjaaGreatDoor
open Go.RowKit
set_option linter.unusedVariables false
set_option maxRecDepth 100000

set_option maxRecDepth 100000 in
set_option maxHeartbeats 40000000 in
theorem ref_tail1 (l : List (Int × Int)) (h24 : l.length ≤ 24) (w : World) (K : RfK) (HN : Hid (K.n = l.length)) (gk : Nat) (K2 K3 : Act → World → Prop) (q : Option CkS) (hq : Hid (chk l = q)) (HF : Hid (fitsL l = true)) (A0 : Option Addr) (c0 : Nat)
    (HA : Hid (0 < l.length → ∃ b o, A0 = some ⟨b, o, none⟩ ∧ b < w.heap.size ∧ ∀ j, j < l.length → w.cell? ⟨b, o + j * 2, none⟩ = some (.int .i64 (l.getD j (0, 0)).1) ∧ w.cell? ⟨b, o + j * 2 + 1, none⟩ = some (.int .i64 (l.getD j (0, 0)).2)))
    (hK2 : ∀ a' w', NX w l K (.slice A0 l.length c0) gk a' w' → K2 a' w')
    (M T0 : List Pl) (D : List Int) (mx em : Int) (g cap p : Nat) (hms : 2 * (1650 - M.length) + (p + 1) ≤ gk) (hp : T0.length = p) (d e : Int) (t : Nat) (d0 : 0 ≤ d) (d1 : d ≤ 10) (e0 : 0 ≤ e) (e1 : e ≤ 5) (hpm : p + 1 ≤ M.length + 1) (hfew : M.length ≤ 1650) (gx : Nat) (h8 : ¬ 8 < d) (h4 : ¬ 4 < e) (htn : t < l.length) (u0 u1 : Bool) (hdi : Hid (DInv l M (T0 ++ [((t : Int), d, e)]) D mx em u0 u1)) (HNM : Hid ¬((t : Int), d, e) ∈ M) (xd : Int) (HXD : Hid (D.getD t 0 = xd)) (Hβ : Hid ((decide (0 ≤ xd) && !(xd == d)) = false)) (wc : World)
    (HX5 : Hid (RnAt w wc K (.slice (some ⟨g, 0, none⟩) p cap) ⟨M ++ [((t : Int), d, e)], T0, D, max mx d, max em e, u0, u1⟩ gx t d e)) (act : Act) (x8 : Value)
    (hfr : FrAt K (.slice A0 l.length c0) (.slice (some ⟨g, 0, none⟩) p cap) (.pointer (some ⟨gx, 0, none⟩)) x8 act) :
    (refCod 24).wp Tryz.prog (Exit.inBlock 3 (Exit.then K2 (Exit.inBlock 2 (Exit.then K3 (bodyPost Tryz.prog Tryz.f12 (fun e w' => RefPost w q e w')))))) act wc := by
  obtain ⟨u, rfl⟩ := hfr.open_
  clear hfr
  let Q' : Exit → Act → World → Prop := bodyPost Tryz.prog Tryz.f12 (fun e w' => RefPost w q e w')
  show (refCod 24).wp Tryz.prog (Exit.inBlock 3 (Exit.then K2 (Exit.inBlock 2 (Exit.then K3 Q')))) _ wc
  conv => arg 2; whnf
  have x0 := HX5.out.x0; have x1 := HX5.out.x1; have x2 := HX5.out.x2
  have hDt : D.getD t 0 < 0 ∨ D.getD t 0 = d := by
    have := Hβ.out
    rw [HXD.out]
    rw [Bool.and_eq_false_iff, decide_eq_false_iff_not] at this
    simp at this
    omega
  have HDT := hid hDt; clear hDt
  have k0 := HX5.out.rf.k0
  have hA := HX5.out.rf.hA (by rw [HN.out]; omega)
  have cd := HX5.out.rf.cD t (by rw [HN.out]; exact htn)
  have fd := HX5.out.rf.fD t (by rw [HN.out]; exact htn)
  have hcc := HX5.out.rf.hc
  rw [hA, HN.out] at k0
  rw [HN.out] at hcc
  have HX6 := hid (HX5.out.setD (by rw [HN.out]; exact htn) d)
  clear hA HX5
  go_upto_region 25 with fail
  clear k0 cd fd hcc x0 x1 x2
  generalize wc.setCell ⟨K.gD, t, none⟩ (.int .i64 d) = X6 at HX6 ⊢
  obtain ⟨b1, o1, rfl, hbB, hcell⟩ := HA.out (by omega)
  obtain ⟨ca, cb⟩ := hcell t htn
  obtain ⟨o, a, hoa⟩ := pair_of (p := l.getD t (0, 0))
  rw [hoa] at ca cb
  have HR := hid (ins_right HF.out htn hoa)
  have HO : Hid (opAt l t = o ∧ arAt l t = a) := hid (by unfold opAt arAt; rw [hoa]; exact ⟨rfl, rfl⟩)
  clear hoa hcell
  obtain ⟨oa0, oa1, oa2, oa3⟩ := rightI_bounds HR.out
  simp only at oa0 oa1 oa2 oa3
  have ca' := (HX6.out.rf.bel.cell (p := ⟨b1, o1 + t * 2, none⟩) hbB).trans ca
  have cb' := (HX6.out.rf.bel.cell (p := ⟨b1, o1 + t * 2 + 1, none⟩) hbB).trans cb
  have x0 := HX6.out.x0; have x1 := HX6.out.x1; have x2 := HX6.out.x2
  obtain ⟨tk, htk⟩ : ∃ y, tkI o = y := ⟨_, rfl⟩
  have HT := hid htk
  have HTC : Hid (∀ w : World, Calls Tryz.prog 31 #[.int .i64 o] w fun e w' => e = .returned (.int .i64 tk) ∧ w' = w) := hid (fun w => by rw [← htk]; exact take_any o w oa0 oa1)
  clear htk
  go_upto_region 26 with fail
  go_cut [117] (fun s117 wx => s117 = .bool (decide (d < tk)) ∧ Hid (RnAt w wx K (.slice (some ⟨g, 0, none⟩) p cap) ⟨M ++ [((t : Int), d, e)], T0, D.set t d, max mx d, max em e, u0, u1⟩ gx t d e))
  case first =>
    go_quiet ((go_at_call 31; exact Calls.quiet_of_same (HTC.out _)))
    go_wp2_with fail
    go_meet
    exact ⟨rfl, hid (HX6.out.drewN _)⟩
  case rest =>
    clear HX6 ca' cb' x0 x1 x2
    obtain ⟨rfl, HX7⟩ := hcut
    by_cases htd : d < tk
    · have HQN := hid (not_good_none hq.out (hdi.out.low htn (by rw [HO.out.1, HT.out]; exact htd)))
      obtain rfl := HQN.out
      have HBW := hid HX7.out.rf.bel
      have b2 := HX7.out.rf.b2
      have r0 := HX7.out.rf.r0; have r1 := HX7.out.rf.r1; have r2 := HX7.out.rf.r2; have r3 := HX7.out.rf.r3; have r4 := HX7.out.rf.r4; have r5 := HX7.out.rf.r5
      have f0 := HX7.out.rf.rf 0; have f1 := HX7.out.rf.rf 1; have f2 := HX7.out.rf.rf 2; have f3 := HX7.out.rf.rf 3; have f4 := HX7.out.rf.rf 4; have f5 := HX7.out.rf.rf 5
      clear HX7 HQN
      go_wp2_with fail
      exact bodyPost_ret (v := knV (.slice none 0 0) 0 0 false false false) (by simp [results, Tryz.results12, go_sem, r0, r1, r2, r3, r4, r5]) rfl (refpost_no (hid rfl) (below_set6 HBW.out b2 _ _ _ _ _ _))
    have HDG := hid (hdi.out.go HNM.out htn (by omega) (by omega) HDT.out (by rw [HO.out.1, HT.out]; omega))
    rw [HO.out.1, HO.out.2] at HDG
    obtain ⟨v0, hv0⟩ : ∃ z, (u0 || (decide (o = 4 ∨ o = 5) && decide (a = 0))) = z := ⟨_, rfl⟩
    obtain ⟨v1, hv1⟩ : ∃ z, (u1 || (decide (o = 4 ∨ o = 5) && decide (a = 1))) = z := ⟨_, rfl⟩
    rw [hv0, hv1] at HDG
    have HV0 := hid hv0; have HV1 := hid hv1; clear hv0 hv1
    clear hdi
    go_upto_region 28 with fail
    obtain ⟨γ, hγ⟩ : ∃ γ, decide (o = 4 ∨ o = 5) = γ := ⟨_, rfl⟩
    have Hγ := hid hγ; clear hγ
    go_cut [124] (fun s124 wx => s124 = .bool γ ∧ wx = wc)
    case first =>
      by_cases o4 : o = 4
      · subst o4
        go_wp2_with fail
        go_meet
        exact ⟨by rw [← Hγ.out]; rfl, rfl⟩
      by_cases o5 : o = 5
      · subst o5
        go_wp2_with fail
        go_meet
        exact ⟨by rw [← Hγ.out]; rfl, rfl⟩
      have n4 : (o == 4) = false := by simpa using o4
      have n5 : (o == 5) = false := by simpa using o5
      have HN45 : Hid (decide (o = 4 ∨ o = 5) = false) := hid (by simp [o4, o5])
      clear o4 o5
      go_wp2_with fail
      go_meet
      exact ⟨by rw [← Hγ.out, HN45.out], rfl⟩
    case rest =>
     obtain ⟨rfl, rfl⟩ := hcut
     go_upto_if 124 with fail
     go_cut [] (fun wx => Hid (RnAt w wx K (.slice (some ⟨g, 0, none⟩) p cap) ⟨M ++ [((t : Int), d, e)], T0, D.set t d, max mx d, max em e, v0, v1⟩ gx t d e))
     case first =>
      cases γ with
      | true =>
        have o45 : o = 4 ∨ o = 5 := of_decide_eq_true Hγ.out
        have H45 := hid o45
        clear Hγ
        have x0 := HX7.out.x0
        have k3 := HX7.out.rf.k3; have k4 := HX7.out.rf.k4; have f3 := HX7.out.rf.kf 3; have f4 := HX7.out.rf.kf 4
        have cb' := (HX7.out.rf.bel.cell (p := ⟨b1, o1 + t * 2 + 1, none⟩) hbB).trans cb
        simp only at k3 k4
        rcases cell_in HR.out o45 with ha | ha
        · have HP3 : Hid (RnAt w (wc.setCell ⟨K.g3, 3, none⟩ (.bool true)) K (.slice (some ⟨g, 0, none⟩) p cap) ⟨M ++ [((t : Int), d, e)], T0, D.set t d, max mx d, max em e, v0, v1⟩ gx t d e) := hid (by
            refine HX7.out.setK ⟨M ++ [((t : Int), d, e)], T0, D.set t d, max mx d, max em e, v0, v1⟩ rfl rfl rfl 3 (.bool true) (by omega) (by omega) rfl rfl ?_ ?_
            · rw [← HV0.out]; simp [H45.out, ha]
            · rw [← HV1.out]; simp [ha])
          subst ha
          clear H45 HX7
          rcases o45 with rfl | rfl
          all_goals
            go_wp2_with fail
            go_meet
            exact HP3
        · have HP4 : Hid (RnAt w (wc.setCell ⟨K.g3, 4, none⟩ (.bool true)) K (.slice (some ⟨g, 0, none⟩) p cap) ⟨M ++ [((t : Int), d, e)], T0, D.set t d, max mx d, max em e, v0, v1⟩ gx t d e) := hid (by
            refine HX7.out.setK ⟨M ++ [((t : Int), d, e)], T0, D.set t d, max mx d, max em e, v0, v1⟩ rfl rfl rfl 4 (.bool true) (by omega) (by omega) rfl rfl ?_ ?_
            · rw [← HV0.out]; simp [ha]
            · rw [← HV1.out]; simp [H45.out, ha])
          subst ha
          clear H45 HX7
          rcases o45 with rfl | rfl
          all_goals
            go_wp2_with fail
            go_meet
            exact HP4
      | false =>
        have o45 : ¬ (o = 4 ∨ o = 5) := of_decide_eq_false Hγ.out
        have e0 : u0 = v0 := by rw [← HV0.out]; simp [o45]
        have e1 : u1 = v1 := by rw [← HV1.out]; simp [o45]
        have HE0 := hid e0; have HE1 := hid e1
        clear e0 e1 o45
        go_wp2_with fail
        go_meet
        rw [← HE0.out, ← HE1.out]; exact HX7
     case rest =>
      clear HX7 Hγ
      have HX8 := hcut; clear hcut
      go_step
      refine ref_tail2 l h24 w K HN gk _ _ q c0 b1 o1 (by assumption) M T0 D mx em g cap p hms hp d e t d0 d1 e0 e1 hpm hfew gx h8 h4 htn hbB o a ca cb HR HO oa0 oa1 oa2 oa3 tk HT HTC htd v0 v1 HDG _ HX8 _ ?_
      exact ⟨rfl, rfl, rfl, rfl, rfl, rfl, rfl, rfl, rfl⟩

end Go.Proofs.YtfhlpbjdcdagjaaGreatDoor
