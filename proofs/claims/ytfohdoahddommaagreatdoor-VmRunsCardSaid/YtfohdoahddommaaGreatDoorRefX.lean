/- Layer 5, check: the document's Check: its walk, the part ahead of that. -/
import Derived.Test.YtfohdoahddommaaGreatDoorRefD
import Derived.Deep.LoopGhost
import Derived.Deep.DeepCutAuto
import Derived.Deep.CutBlock
import Derived.Deep.QuietTactic
import Derived.BigQuiet
import Derived.BigRegion
import Derived.Maps.RangeWalk
import Derived.Deep.RegionHeld3
namespace Go.Proofs.YtfohdoahddommaaGreatDoor
open Go.RowKit
set_option linter.unusedVariables false
set_option maxRecDepth 100000

set_option maxRecDepth 100000 in
set_option maxHeartbeats 40000000 in
theorem ref_tail1 (l : List (Int × Int)) (h24 : l.length ≤ 24) (w : World) (K : RfK) (HN : Hid (K.n = l.length)) (gk : Nat) (K2 K3 : Act → World → Prop) (q : Option CkS) (hq : Hid (chk l = q)) (HF : Hid (fitsL l = true)) (A0 : Option Addr) (c0 : Nat)
    (HA : Hid (0 < l.length → ∃ b o, A0 = some ⟨b, o, none⟩ ∧ b < w.heap.size ∧ ∀ j, j < l.length → w.cell? ⟨b, o + j * 2, none⟩ = some (.int .i64 (l.getD j (0, 0)).1) ∧ w.cell? ⟨b, o + j * 2 + 1, none⟩ = some (.int .i64 (l.getD j (0, 0)).2)))
    (hK2 : ∀ a' w', NX w l K (.slice A0 l.length c0) gk a' w' → K2 a' w')
    (M T0 : List Pl) (D : List Int) (mx em : Int) (g cap p : Nat) (hms : 2 * (1650 - M.length) + (p + 1) ≤ gk) (hp : T0.length = p) (d e : Int) (t : Nat) (d0 : 0 ≤ d) (d1 : d ≤ 10) (e0 : 0 ≤ e) (e1 : e ≤ 5) (hpm : p + 1 ≤ M.length + 1) (hfew : M.length ≤ 1650) (gx : Nat) (h8 : ¬ 8 < d) (h4 : ¬ 4 < e) (htn : t < l.length) (u0 u1 : Bool) (hdi : Hid (DInv l M (T0 ++ [((t : Int), d, e)]) D mx em u0 u1)) (HNM : Hid ¬((t : Int), d, e) ∈ M) (xd : Int) (HXD : Hid (D.getD t 0 = xd)) (Hβ : Hid ((decide (0 ≤ xd) && !(xd == d)) = false)) (wc : World)
    (HX5 : Hid (RnAt w wc K (.slice (some ⟨g, 0, none⟩) p cap) ⟨M ++ [((t : Int), d, e)], T0, D, max mx d, max em e, u0, u1⟩ gx t d e)) (act : Act) (x8 : Value)
    (hfr : FrAt K (.slice A0 l.length c0) (.slice (some ⟨g, 0, none⟩) p cap) (.pointer (some ⟨gx, 0, none⟩)) x8 act) :
    (refCod 24).wp Tryz.prog (Exit.inBlock 3 (Exit.then K2 (Exit.inBlock 2 (Exit.then K3 (bodyPost Tryz.prog Tryz.f6 (fun e w' => RefPost w q e w')))))) act wc := by
  obtain ⟨u, rfl⟩ := hfr.open_
  clear hfr
  let Q' : Exit → Act → World → Prop := bodyPost Tryz.prog Tryz.f6 (fun e w' => RefPost w q e w')
  show (refCod 24).wp Tryz.prog (Exit.inBlock 3 (Exit.then K2 (Exit.inBlock 2 (Exit.then K3 Q')))) _ wc
  conv => arg 2; whnf
  have x0 := HX5.out.x0; have x1 := HX5.out.x1; have x2 := HX5.out.x2
  have hDt : D.getD t 0 < 0 ∨ D.getD t 0 = d := by
    have := Hβ.out
    rw [HXD.out]
    rw [Bool.and_eq_false_iff, decide_eq_false_iff_not] at this
    simp at this
    omega
  have HDT := hid hDt; clear hDt
  have k0 := HX5.out.rf.k0
  have hA := HX5.out.rf.hA (by rw [HN.out]; omega)
  have cd := HX5.out.rf.cD t (by rw [HN.out]; exact htn)
  have fd := HX5.out.rf.fD t (by rw [HN.out]; exact htn)
  have hcc := HX5.out.rf.hc
  rw [hA, HN.out] at k0
  rw [HN.out] at hcc
  have HX6 := hid (HX5.out.setD (by rw [HN.out]; exact htn) d)
  clear hA HX5
  go_upto_region 25 with fail
  clear k0 cd fd hcc x0 x1 x2
  generalize wc.setCell ⟨K.gD, t, none⟩ (.int .i64 d) = X6 at HX6 ⊢
  obtain ⟨b1, o1, rfl, hbB, hcell⟩ := HA.out (by omega)
  obtain ⟨ca, cb⟩ := hcell t htn
  obtain ⟨o, a, hoa⟩ := pair_of (p := l.getD t (0, 0))
  rw [hoa] at ca cb
  have HR := hid (ins_right HF.out htn hoa)
  have HO : Hid (opAt l t = o ∧ arAt l t = a) := hid (by unfold opAt arAt; rw [hoa]; exact ⟨rfl, rfl⟩)
  clear hoa hcell
  obtain ⟨oa0, oa1, oa2, oa3⟩ := rightI_bounds HR.out
  simp only at oa0 oa1 oa2 oa3
  have ca' := (HX6.out.rf.bel.cell (p := ⟨b1, o1 + t * 2, none⟩) hbB).trans ca
  have cb' := (HX6.out.rf.bel.cell (p := ⟨b1, o1 + t * 2 + 1, none⟩) hbB).trans cb
  have x0 := HX6.out.x0; have x1 := HX6.out.x1; have x2 := HX6.out.x2
  obtain ⟨tk, htk⟩ : ∃ y, tkI o = y := ⟨_, rfl⟩
  have HT := hid htk
  have HTC : Hid (∀ w : World, Calls Tryz.prog 13 #[.int .i64 o] w fun e w' => e = .returned (.int .i64 tk) ∧ w' = w) := hid (fun w => by rw [← htk]; exact take_any o w oa0 oa1)
  clear htk
  go_upto_region 26 with fail
  go_cut [117] (fun s117 wx => s117 = .bool (decide (d < tk)) ∧ Hid (RnAt w wx K (.slice (some ⟨g, 0, none⟩) p cap) ⟨M ++ [((t : Int), d, e)], T0, D.set t d, max mx d, max em e, u0, u1⟩ gx t d e))
  case first =>
    go_quiet ((go_at_call 13; exact Calls.quiet_of_same (HTC.out _)))
    go_wp2_with fail
    go_meet
    exact ⟨rfl, hid (HX6.out.drewN _)⟩
  case rest =>
    clear HX6 ca' cb' x0 x1 x2
    obtain ⟨rfl, HX7⟩ := hcut
    by_cases htd : d < tk
    · have HQN := hid (not_good_none hq.out (hdi.out.low htn (by rw [HO.out.1, HT.out]; exact htd)))
      obtain rfl := HQN.out
      have HBW := hid HX7.out.rf.bel
      have b2 := HX7.out.rf.b2
      have r0 := HX7.out.rf.r0; have r1 := HX7.out.rf.r1; have r2 := HX7.out.rf.r2; have r3 := HX7.out.rf.r3; have r4 := HX7.out.rf.r4; have r5 := HX7.out.rf.r5
      have f0 := HX7.out.rf.rf 0; have f1 := HX7.out.rf.rf 1; have f2 := HX7.out.rf.rf 2; have f3 := HX7.out.rf.rf 3; have f4 := HX7.out.rf.rf 4; have f5 := HX7.out.rf.rf 5
      clear HX7 HQN
      go_wp2_with fail
      exact bodyPost_ret (v := knV (.slice none 0 0) 0 0 false false false) (by simp [results, Tryz.results6, go_sem, r0, r1, r2, r3, r4, r5]) rfl (refpost_no (hid rfl) (below_set6 HBW.out b2 _ _ _ _ _ _))
    have HDG := hid (hdi.out.go HNM.out htn (by omega) (by omega) HDT.out (by rw [HO.out.1, HT.out]; omega))
    rw [HO.out.1, HO.out.2] at HDG
    obtain ⟨v0, hv0⟩ : ∃ z, (u0 || (decide (o = 4 ∨ o = 5) && decide (a = 0))) = z := ⟨_, rfl⟩
    obtain ⟨v1, hv1⟩ : ∃ z, (u1 || (decide (o = 4 ∨ o = 5) && decide (a = 1))) = z := ⟨_, rfl⟩
    rw [hv0, hv1] at HDG
    have HV0 := hid hv0; have HV1 := hid hv1; clear hv0 hv1
    clear hdi
    go_upto_region 28 with fail
    obtain ⟨γ, hγ⟩ : ∃ γ, decide (o = 4 ∨ o = 5) = γ := ⟨_, rfl⟩
    have Hγ := hid hγ; clear hγ
    go_cut [124] (fun s124 wx => s124 = .bool γ ∧ wx = wc)
    case first =>
      by_cases o4 : o = 4
      · subst o4
        go_wp2_with fail
        go_meet
        exact ⟨by rw [← Hγ.out]; rfl, rfl⟩
      by_cases o5 : o = 5
      · subst o5
        go_wp2_with fail
        go_meet
        exact ⟨by rw [← Hγ.out]; rfl, rfl⟩
      have n4 : (o == 4) = false := by simpa using o4
      have n5 : (o == 5) = false := by simpa using o5
      have HN45 : Hid (decide (o = 4 ∨ o = 5) = false) := hid (by simp [o4, o5])
      clear o4 o5
      go_wp2_with fail
      go_meet
      exact ⟨by rw [← Hγ.out, HN45.out], rfl⟩
    case rest =>
     obtain ⟨rfl, rfl⟩ := hcut
     go_upto_if 124 with fail
     go_cut [] (fun wx => Hid (RnAt w wx K (.slice (some ⟨g, 0, none⟩) p cap) ⟨M ++ [((t : Int), d, e)], T0, D.set t d, max mx d, max em e, v0, v1⟩ gx t d e))
     case first =>
      cases γ with
      | true =>
        have o45 : o = 4 ∨ o = 5 := of_decide_eq_true Hγ.out
        have H45 := hid o45
        clear Hγ
        have x0 := HX7.out.x0
        have k3 := HX7.out.rf.k3; have k4 := HX7.out.rf.k4; have f3 := HX7.out.rf.kf 3; have f4 := HX7.out.rf.kf 4
        have cb' := (HX7.out.rf.bel.cell (p := ⟨b1, o1 + t * 2 + 1, none⟩) hbB).trans cb
        simp only at k3 k4
        rcases cell_in HR.out o45 with ha | ha
        · have HP3 : Hid (RnAt w (wc.setCell ⟨K.g3, 3, none⟩ (.bool true)) K (.slice (some ⟨g, 0, none⟩) p cap) ⟨M ++ [((t : Int), d, e)], T0, D.set t d, max mx d, max em e, v0, v1⟩ gx t d e) := hid (by
            refine HX7.out.setK ⟨M ++ [((t : Int), d, e)], T0, D.set t d, max mx d, max em e, v0, v1⟩ rfl rfl rfl 3 (.bool true) (by omega) (by omega) rfl rfl ?_ ?_
            · rw [← HV0.out]; simp [H45.out, ha]
            · rw [← HV1.out]; simp [ha])
          subst ha
          clear H45 HX7
          rcases o45 with rfl | rfl
          all_goals
            go_wp2_with fail
            go_meet
            exact HP3
        · have HP4 : Hid (RnAt w (wc.setCell ⟨K.g3, 4, none⟩ (.bool true)) K (.slice (some ⟨g, 0, none⟩) p cap) ⟨M ++ [((t : Int), d, e)], T0, D.set t d, max mx d, max em e, v0, v1⟩ gx t d e) := hid (by
            refine HX7.out.setK ⟨M ++ [((t : Int), d, e)], T0, D.set t d, max mx d, max em e, v0, v1⟩ rfl rfl rfl 4 (.bool true) (by omega) (by omega) rfl rfl ?_ ?_
            · rw [← HV0.out]; simp [ha]
            · rw [← HV1.out]; simp [H45.out, ha])
          subst ha
          clear H45 HX7
          rcases o45 with rfl | rfl
          all_goals
            go_wp2_with fail
            go_meet
            exact HP4
      | false =>
        have o45 : ¬ (o = 4 ∨ o = 5) := of_decide_eq_false Hγ.out
        have e0 : u0 = v0 := by rw [← HV0.out]; simp [o45]
        have e1 : u1 = v1 := by rw [← HV1.out]; simp [o45]
        have HE0 := hid e0; have HE1 := hid e1
        clear e0 e1 o45
        go_wp2_with fail
        go_meet
        rw [← HE0.out, ← HE1.out]; exact HX7
     case rest =>
      clear HX7 Hγ
      have HX8 := hcut; clear hcut
      go_step
      refine ref_tail2 l h24 w K HN gk _ _ q c0 b1 o1 (by assumption) M T0 D mx em g cap p hms hp d e t d0 d1 e0 e1 hpm hfew gx h8 h4 htn hbB o a ca cb HR HO oa0 oa1 oa2 oa3 tk HT HTC htd v0 v1 HDG _ HX8 _ ?_
      exact ⟨rfl, rfl, rfl, rfl, rfl, rfl, rfl, rfl, rfl⟩

end Go.Proofs.YtfohdoahddommaaGreatDoor

namespace Go.Proofs.YtfohdoahddommaaGreatDoor
open Go.RowKit
set_option linter.unusedVariables false
set_option maxRecDepth 100000

set_option maxRecDepth 100000 in
set_option maxHeartbeats 40000000 in
theorem ref_round (l : List (Int × Int)) (h24 : l.length ≤ 24) (w : World) (K : RfK) (HN : Hid (K.n = l.length)) (gk : Nat) (K2 K3 : Act → World → Prop) (q : Option CkS) (hq : Hid (chk l = q)) (HF : Hid (fitsL l = true)) (A0 : Option Addr) (c0 : Nat)
    (HA : Hid (0 < l.length → ∃ b o, A0 = some ⟨b, o, none⟩ ∧ b < w.heap.size ∧ ∀ j, j < l.length → w.cell? ⟨b, o + j * 2, none⟩ = some (.int .i64 (l.getD j (0, 0)).1) ∧ w.cell? ⟨b, o + j * 2 + 1, none⟩ = some (.int .i64 (l.getD j (0, 0)).2)))
    (hK2 : ∀ a' w', NX w l K (.slice A0 l.length c0) gk a' w' → K2 a' w')
    (vT : Value) (M T : List Pl) (D : List Int) (mx em : Int) (u0 u1 : Bool) (hT : ¬ T = []) (wr : World) (hrf : Hid (RfAt w wr K vT ⟨M, T, D, mx, em, u0, u1⟩)) (hdi : Hid (DInv l M T D mx em u0 u1)) (hms : 2 * (1650 - M.length) + T.length ≤ gk) (act : Act) (x7 x8 : Value)
    (hfr : FrAt K (.slice A0 l.length c0) vT x7 x8 act) :
    (refCod 10).wp Tryz.prog (Exit.then K2 (Exit.inBlock 2 (Exit.then K3 (bodyPost Tryz.prog Tryz.f6 (fun e w' => RefPost w q e w'))))) act wr := by
  obtain ⟨u, rfl⟩ := hfr.open_
  clear hfr
  let Q' : Exit → Act → World → Prop := bodyPost Tryz.prog Tryz.f6 (fun e w' => RefPost w q e w')
  show (refCod 10).wp Tryz.prog (Exit.then K2 (Exit.inBlock 2 (Exit.then K3 Q'))) _ wr
  conv => arg 2; whnf
  obtain ⟨T0, x, rfl⟩ : ∃ T0 x, T = T0 ++ [x] := ⟨T.dropLast, T.getLast hT, (List.dropLast_concat_getLast hT).symm⟩
  clear hT
  obtain ⟨g, cap, hvT, hrest⟩ := own_cell hrf.out.own (by simp)
  clear hrest
  obtain ⟨p, hp⟩ : ∃ p, T0.length = p := ⟨_, rfl⟩
  have hlen : (T0 ++ [x]).length = p + 1 := by simp [hp]
  rw [hlen] at hvT hms
  subst hvT
  obtain ⟨x0, d, e⟩ := x
  obtain ⟨t, rfl, htl, hr⟩ := hdi.out.last
  obtain ⟨c1, c2, c3, hcap⟩ := hrf.out.last rfl hp
  have HP := hid (hrf.out.pop rfl hp)
  try simp only at c1 c2 c3
  obtain ⟨d0, d1, e0, e1⟩ := rch_bounds hr
  have HWM : Hid (∀ y ∈ M, Wf3 y) := hid (fun y hy => rch_wf h24 (hdi.out.rch y (.inl hy)))
  have HWX : Hid (Wf3 ((t : Int), d, e)) := hid (rch_wf h24 ⟨t, rfl, hr⟩)
  have hpm := hdi.out.lenT
  have hfew := hdi.out.few h24
  try simp only at hpm hfew
  rw [hlen] at hpm
  have HRC := hid hr
  have hnn : 0 < p + 1 := by omega
  clear hlen hr hrf
  go_upto_region 13 with fail
  have HX := hid (RnAt.start HP.out (t : Int) d e)
  generalize hgx : wr.heap.size = gx at HX ⊢
  generalize wr.alloc (.cells #[.int .i64 (t : Int), .int .i64 d, .int .i64 e] 49) = X at HX ⊢
  clear hgx c1 c2 c3 HP hcap
  by_cases hm : ((t : Int), d, e) ∈ M
  · have hlk := met_look HX.out.rf.met HWM.out HWX.out true ⟨fun _ => hm, fun _ => rfl⟩
    have x0 := HX.out.x0; have x1 := HX.out.x1; have x2 := HX.out.x2
    have HD2 := hid (hdi.out.met hm)
    have HX2 := hid HX.out.rf
    clear HX hdi hm
    go_wp2_with fail
    exact NX.mk (gk - 1) (by omega) ⟨rfl, rfl, rfl, rfl, rfl, rfl, ⟨M, T0, D, mx, em, u0, u1⟩, HX2, HD2, by simp only; omega⟩
  · have hlk := met_look HX.out.rf.met HWM.out HWX.out false ⟨(fun q => by cases q), fun q => absurd q hm⟩
    have x0 := HX.out.x0; have x1 := HX.out.x1; have x2 := HX.out.x2
    have HNM := hid hm; clear hm
    obtain ⟨kl, hkl⟩ := key_pl HWX.out
    have HKL := hid hkl; clear hkl
    have HNP : Hid (∀ y ∈ metL M, y.1 ≠ plV ((t : Int), d, e)) := hid (fun y hy q => by
      obtain ⟨z, hz, rfl⟩ := List.mem_map.1 hy
      have := plV_inj q
      subst this
      exact HNM.out hz)
    have hml : (metL M).length < maxLen := by unfold metL maxLen; rw [List.length_map]; omega
    have HML := hid hml; clear hml
    go_upto_if 55 with (at_mapUpdate; refine wpList_update_add rfl _ _ _ _ rfl 49 4 keyedPl Tryz.underlying47 K.bM (metL M) rfl HX.out.rf.met (met_keys HWM.out) HML.out _ _ kl rfl rfl HKL.out HNP.out ?_; intro X2 hm2 hg2; have HX2 := hid (HX.out.setM hg2 ((t : Int), d, e) hm2); clear hm2 hg2 hlk x0 x1 x2; have x1 := HX2.out.x1; have k1 := HX2.out.rf.k1; have f1 := HX2.out.rf.kf 1; simp only at k1)
    clear HX HNP HML HKL HWX HWM
    go_cut [] (fun wx => Hid (RnAt w wx K (.slice (some ⟨g, 0, none⟩) p cap) ⟨M ++ [((t : Int), d, e)], T0, D, max mx d, em, u0, u1⟩ gx t d e))
    case first =>
      by_cases hmx : mx < d
      · have HY := hid (HX2.out.setK ⟨M ++ [((t : Int), d, e)], T0, D, max mx d, em, u0, u1⟩ rfl rfl rfl 1 (.int .i64 d) (by omega) (by omega) (by simp only [if_true]; rw [Int.max_eq_right (by omega)]) rfl rfl rfl)
        go_wp2_with fail
        go_meet
        exact HY
      · have HM : Hid (max mx d = mx) := hid (Int.max_eq_left (by omega))
        go_wp2_with fail
        go_meet
        rw [HM.out]; exact HX2
    case rest =>
      clear HX2 x1 k1 f1
      have HX3 := hcut; clear hcut
      have x2 := HX3.out.x2
      have k2 := HX3.out.rf.k2; have f2 := HX3.out.rf.kf 2
      simp only at k2
      go_upto_if 63 with fail
      go_cut [] (fun wx => Hid (RnAt w wx K (.slice (some ⟨g, 0, none⟩) p cap) ⟨M ++ [((t : Int), d, e)], T0, D, max mx d, max em e, u0, u1⟩ gx t d e))
      case first =>
        by_cases hmx : em < e
        · have HY := hid (HX3.out.setK ⟨M ++ [((t : Int), d, e)], T0, D, max mx d, max em e, u0, u1⟩ rfl rfl rfl 2 (.int .i64 e) (by omega) (by omega) rfl (by simp only [if_true]; rw [Int.max_eq_right (by omega)]) rfl rfl)
          go_wp2_with fail
          go_meet
          exact HY
        · have HM : Hid (max em e = em) := hid (Int.max_eq_left (by omega))
          go_wp2_with fail
          go_meet
          rw [HM.out]; exact HX3
      case rest =>
        clear HX3 x2 k2 f2
        have HX4 := hcut; clear hcut
        have x0 := HX4.out.x0; have x1 := HX4.out.x1; have x2 := HX4.out.x2
        by_cases hfar : 8 < d ∨ 4 < e
        · have HQN := hid (not_good_none hq.out (hdi.out.far hfar))
          obtain rfl := HQN.out
          have HBW := hid HX4.out.rf.bel
          have b2 := HX4.out.rf.b2
          have r0 := HX4.out.rf.r0; have r1 := HX4.out.rf.r1; have r2 := HX4.out.rf.r2; have r3 := HX4.out.rf.r3; have r4 := HX4.out.rf.r4; have r5 := HX4.out.rf.r5
          have f0 := HX4.out.rf.rf 0; have f1 := HX4.out.rf.rf 1; have f2 := HX4.out.rf.rf 2; have f3 := HX4.out.rf.rf 3; have f4 := HX4.out.rf.rf 4; have f5 := HX4.out.rf.rf 5
          clear HX4 HQN
          by_cases h8 : 8 < d
          · clear hfar
            go_wp2_with fail
            exact bodyPost_ret (v := knV (.slice none 0 0) 0 0 false false false) (by simp [results, Tryz.results6, go_sem, r0, r1, r2, r3, r4, r5]) rfl (refpost_no (hid rfl) (below_set6 HBW.out b2 _ _ _ _ _ _))
          · have h4 : 4 < e := by omega
            clear hfar
            go_wp2_with fail
            exact bodyPost_ret (v := knV (.slice none 0 0) 0 0 false false false) (by simp [results, Tryz.results6, go_sem, r0, r1, r2, r3, r4, r5]) rfl (refpost_no (hid rfl) (below_set6 HBW.out b2 _ _ _ _ _ _))
        have h8 : ¬ 8 < d := by omega
        have h4 : ¬ 4 < e := by omega
        clear hfar
        by_cases htn : t < l.length
        · obtain ⟨xd, hxd⟩ : ∃ z, D.getD t 0 = z := ⟨_, rfl⟩
          have HXD := hid hxd
          have k0 := HX4.out.rf.k0
          have hA := HX4.out.rf.hA (by rw [HN.out]; omega)
          have cd := HX4.out.rf.cD t (by rw [HN.out]; exact htn)
          have fd := HX4.out.rf.fD t (by rw [HN.out]; exact htn)
          have hcc := HX4.out.rf.hc
          rw [hA, HN.out] at k0
          rw [HN.out] at hcc
          simp only at cd
          rw [hxd] at cd
          obtain ⟨β, hβ⟩ : ∃ β, (decide (0 ≤ xd) && !(xd == d)) = β := ⟨_, rfl⟩
          clear hA hxd
          go_upto_region 22 with fail
          go_cut [98] (fun s98 wx => s98 = .bool β ∧ Hid (RnAt w wx K (.slice (some ⟨g, 0, none⟩) p cap) ⟨M ++ [((t : Int), d, e)], T0, D, max mx d, max em e, u0, u1⟩ gx t d e))
          case first =>
            by_cases q0 : 0 ≤ xd
            · have hq0 : decide (0 ≤ xd) = true := decide_eq_true q0
              rw [hq0, Bool.true_and] at hβ
              have Hβ := hid hβ; clear hβ
              go_quiet (fail)
              go_wp2_with fail
              go_meet
              exact ⟨by rw [← Hβ.out] <;> rfl, hid (HX4.out.drewN _)⟩
            · have hq0 : decide (0 ≤ xd) = false := decide_eq_false q0
              rw [hq0, Bool.false_and] at hβ
              have Hβ := hid hβ; clear hβ
              go_quiet (fail)
              go_wp2_with fail
              go_meet
              exact ⟨by rw [← Hβ.out] <;> rfl, hid (HX4.out.drewN _)⟩
          case rest =>
            clear HX4 k0 cd fd hcc x0 x1 x2
            obtain ⟨rfl, HX5⟩ := hcut
            have Hβ := hid hβ; clear hβ
            have x0 := HX5.out.x0; have x1 := HX5.out.x1; have x2 := HX5.out.x2
            cases β with
            | true =>
              have htwo : 0 ≤ xd ∧ xd ≠ d := by
                have := Hβ.out
                rw [Bool.and_eq_true, decide_eq_true_eq] at this
                simpa using this
              have HQN := hid (not_good_none hq.out (hdi.out.two htn (by rw [HXD.out]; exact htwo.1) (by rw [HXD.out]; exact htwo.2)))
              obtain rfl := HQN.out
              have HBW := hid HX5.out.rf.bel
              have b2 := HX5.out.rf.b2
              have r0 := HX5.out.rf.r0; have r1 := HX5.out.rf.r1; have r2 := HX5.out.rf.r2; have r3 := HX5.out.rf.r3; have r4 := HX5.out.rf.r4; have r5 := HX5.out.rf.r5
              have f0 := HX5.out.rf.rf 0; have f1 := HX5.out.rf.rf 1; have f2 := HX5.out.rf.rf 2; have f3 := HX5.out.rf.rf 3; have f4 := HX5.out.rf.rf 4; have f5 := HX5.out.rf.rf 5
              clear HX5 HQN htwo
              go_wp2_with fail
              exact bodyPost_ret (v := knV (.slice none 0 0) 0 0 false false false) (by simp [results, Tryz.results6, go_sem, r0, r1, r2, r3, r4, r5]) rfl (refpost_no (hid rfl) (below_set6 HBW.out b2 _ _ _ _ _ _))
            | false =>
              iterate 5 go_step
              refine ref_tail1 l h24 w K HN gk _ _ q hq HF A0 c0 HA (by assumption) M T0 D mx em g cap p hms hp d e t d0 d1 e0 e1 hpm hfew gx h8 h4 htn u0 u1 hdi HNM xd HXD Hβ _ HX5 _ x8 ?_
              exact ⟨rfl, rfl, rfl, rfl, rfl, rfl, rfl, rfl, rfl⟩
        · obtain rfl : t = l.length := by omega
          have HD2 := hid (hdi.out.at_end HNM.out (by omega) (by omega))
          have hml := HD2.out.few h24
          rw [List.length_append] at hml
          simp only [List.length_cons, List.length_nil] at hml
          have HX5 := hid HX4.out.rf
          clear HX4 hdi
          go_wp2_with fail
          exact NX.mk (gk - 1) (by omega) ⟨rfl, rfl, rfl, rfl, rfl, rfl, ⟨M ++ [((l.length : Int), d, e)], T0, D, max mx d, max em e, u0, u1⟩, HX5, HD2, by simp only [List.length_append, List.length_cons, List.length_nil]; omega⟩

end Go.Proofs.YtfohdoahddommaaGreatDoor

namespace Go.Proofs.YtfohdoahddommaaGreatDoor
open Go.RowKit
set_option linter.unusedVariables false
set_option maxRecDepth 100000

set_option maxRecDepth 100000 in
set_option maxHeartbeats 40000000 in
theorem refcheck_any (v : Value) (l : List (Int × Int)) (q : Option CkS) (hq : Hid (chk l = q)) (hl : l.length ≤ 1000000000000) (w : World) (hv : SlV w w.heap.size v l) :
    Calls Tryz.prog 6 #[v] w fun e w' => RefPost w q e w' := by
  have HV := hid hv
  obtain ⟨A0, c0, rfl, hc0, hA⟩ := hv
  have HA := hid hA; clear hA
  cases hf : fitsL l with
  | false =>
    have HF := hid hf
    obtain rfl : none = q := by rw [← hq.out]; unfold chk; rw [if_neg (by rw [hf]; simp)]
    clear hf hq
    go_enter Tryz.func6, Tryz.ntmps6
    go_wp2_with fail
    obtain ⟨W, hW, ⟨r0, r1, r2, r3, r4, r5⟩, rf, rs, HW⟩ := box6_of w 36 (.slice none 0 0) (.int .i64 0) (.int .i64 0) (.bool false) (.bool false) (.bool false)
    rw [hW]; clear hW
    refine (reffits_any _ l false HF hl W (HV.out.below HW.out |>.mono (by omega))).mono ?_
    rintro e w1 ⟨rfl, hb⟩
    obtain ⟨hc, hf⟩ := bcell hb
    have lw : w.heap.size < W.heap.size := by omega
    have lw1 : w.heap.size < w1.heap.size := by have := hb.size; omega
    have r0 := (hc _ _ lw).trans r0
    have r1 := (hc _ _ lw).trans r1
    have r2 := (hc _ _ lw).trans r2
    have r3 := (hc _ _ lw).trans r3
    have r4 := (hc _ _ lw).trans r4
    have r5 := (hc _ _ lw).trans r5
    have g0 := (hf _ _ lw).trans (rf 0)
    have g1 := (hf _ _ lw).trans (rf 1)
    have g2 := (hf _ _ lw).trans (rf 2)
    have g3 := (hf _ _ lw).trans (rf 3)
    have g4 := (hf _ _ lw).trans (rf 4)
    have g5 := (hf _ _ lw).trans (rf 5)
    have HB := hid (HW.out.trans (hb.mono HW.out.size))
    clear hc hf hb rf
    go_wp2_with fail
    refine bodyPost_ret (v := knV (.slice none 0 0) 0 0 false false false) (by simp [results, Tryz.results6, go_sem, r0, r1, r2, r3, r4, r5, lw1]) rfl (refpost_no (hid rfl) ((below_set6 HB.out (Nat.le_refl _) _ _ _ _ _ _).alloc (by simp; omega) _))
  | true =>
    have HF := hid hf
    have h24 := ((fitsL_iff l).1 hf).1
    clear hf
    have hmm := @run_makeMap Tryz.prog
    obtain ⟨i0, hi, hz0, hz1, hz2⟩ := info_parts intInfo5
    go_enter Tryz.func6, Tryz.ntmps6
    go_wp2_with fail
    obtain ⟨W, hW, ⟨r0, r1, r2, r3, r4, r5⟩, rf, rs, HW⟩ := box6_of w 36 (.slice none 0 0) (.int .i64 0) (.int .i64 0) (.bool false) (.bool false) (.bool false)
    rw [hW]; clear hW
    refine (reffits_any _ l true HF hl W (HV.out.below HW.out |>.mono (by omega))).mono ?_
    rintro e w1 ⟨rfl, hb⟩
    obtain ⟨hc, hf⟩ := bcell hb
    have lw : w.heap.size < W.heap.size := by omega
    have H0 := r0_new (W := w) (V := w1) (g2 := w.heap.size) (hid (HW.out.trans (hb.mono HW.out.size))) ((hc _ _ lw).trans r0) ((hc _ _ lw).trans r1) ((hc _ _ lw).trans r2) ((hc _ _ lw).trans r3) ((hc _ _ lw).trans r4) ((hc _ _ lw).trans r5) (fun j => (hf _ _ lw).trans (rf j)) (Nat.le_refl _)
    clear hc hf r0 r1 r2 r3 r4 r5 rf rs HW hb lw
    go_upto_block 0 with fail
    go_cut [2, 3, 4, 5] (fun s2 s3 s4 s5 wx => ∃ (K : RfK) (gT : Nat), s2 = .pointer (some ⟨K.g2, 0, none⟩) ∧ s3 = .pointer (some ⟨K.g3, 0, none⟩) ∧ s4 = .map (some K.bM) ∧ s5 = .slice (some ⟨gT, 0, none⟩) 1 1 ∧ Hid (K.n = l.length) ∧ Hid (RfAt w wx K (.slice (some ⟨gT, 0, none⟩) 1 1) ⟨[], [(0, 0, 0)], List.replicate l.length (-1), 0, 0, false, false⟩))
    case first =>
      go_wp2_with fail
      go_loopw [6] (fun i wr => ∃ (k : Nat) (v : Value), k ≤ l.length ∧ i = .int .i64 k ∧ Hid (R0At w wr w.heap.size w1.heap.size (w1.heap.size + 1) (w1.heap.size + 2) (w1.heap.size + 3) k v)) (fun i _ => l.length - (RowKit.intOf i).toNat)
      case atStart => exact ⟨0, _, Nat.zero_le _, rfl, H0⟩
      case round =>
        clear H0
        obtain ⟨k, v, hk, rfl, hs⟩ := hrel
        by_cases hlt : k < l.length
        · have c0 := hs.out.k0
          have lb : w1.heap.size < w1.heap.size + 3 := by omega
          have lt := hs.out.lt
          have f0 := hs.out.kf 0
          go_wp2_with (at_builtin; refine wpList_append_own _ rfl _ _ 33 rfl (w1.heap.size + 3) 3 i0 (.int .i64 0) 1 8 Tryz.underlying33 hi hz0 hz1 hz2 rfl (by decide) v k _ rfl (hs.out.own.alloc _) ⟨wr.heap.size, 0, none⟩ 1 1 [.int .i64 (-1)] rfl rfl (one_new wr _ _) (by intro u hu; simp at hu; rcases hu with rfl; rfl) (by unfold maxLen; omega) (by omega) (by simp; omega) ?_; intro v' w3 hown3 hg3 _; obtain ⟨g, cap, rfl, hg0, hg1, hrest⟩ := own_cell hown3 (by omega); have HS3 := r0_step hs hg3 hown3 hg0; have c0 := (World.cell?_of_block (R0At.low hs hg3 w1.heap.size lb)).trans c0; have f0 := (World.frozen?_of_block (R0At.low hs hg3 w1.heap.size lb)).trans f0; clear hown3 hg3 hrest)
          go_roundw
          case rel => exact ⟨k + 1, _, by omega, by go_num, HS3⟩
          case measure => simp [RowKit.intOf]; omega
        · obtain rfl : k = l.length := by omega
          obtain ⟨K, e2, e3, eM, en, rfl, hrf⟩ := r0_done hs
          have HR := hid hrf; have E2 := hid e2; have E3 := hid e3; have EM := hid eM; have EN := hid en
          clear hs hrf e2 e3 eM en
          go_wp2_with fail
          go_meet
          exact ⟨K, _, by rw [E2.out], by rw [E3.out], by rw [EM.out], rfl, EN, HR⟩
    case rest =>
      obtain ⟨K, gT, rfl, rfl, rfl, rfl, HN, HR⟩ := hcut
      clear H0 hmm hi hz0 hz1 hz2
      have HD := hid (dinv_start l)
      go_wp2_with fail
      refine wp_loop_ghost_k (RI w l K (.slice A0 l.length c0)) 3400 ⟨rfl, rfl, rfl, rfl, rfl, rfl, ⟨[], [(0, 0, 0)], List.replicate l.length (-1), 0, 0, false, false⟩, HR, HD, by simp⟩ ?_
      clear HR HD
      intro gk act wr hinv J K2 hJ hK
      have hK2 : ∀ a' w', NX w l K (.slice A0 l.length c0) gk a' w' → K2 a' w' := fun a' w' ⟨m, hm, hI⟩ => hK a' w' (Handed.intro m hm (hJ _ _ _ hI))
      clear hJ hK
      obtain ⟨hsz, hdf, f0, f2, f3, f4, s, hrf, hdi, hms⟩ := hinv
      obtain ⟨vT, hvT5⟩ : ∃ v, act.tmps.getD 5 undef = v := ⟨_, rfl⟩
      obtain ⟨x7, hx7⟩ : ∃ v, act.tmps.getD 7 undef = v := ⟨_, rfl⟩
      obtain ⟨x8, hx8⟩ : ∃ v, act.tmps.getD 8 undef = v := ⟨_, rfl⟩
      rw [hvT5] at hrf
      have hfr : FrAt K (.slice A0 l.length c0) vT x7 x8 act := ⟨hsz, hdf, f0, f2, f3, f4, hvT5, hx7, hx8⟩
      clear hsz hdf f0 f2 f3 f4 hvT5 hx7 hx8
      obtain ⟨M, T, D, mx, em, u0, u1⟩ := s
      simp only at hms
      by_cases hT : T = []
      · subst hT
        obtain ⟨u, rfl⟩ := hfr.open_
        clear hfr
        have hn := hrf.out.own
        have HSM := hid (hdi.out.done)
        obtain ⟨sq, hq2, hD, hmx, hem, hu0, hu1⟩ := sem_some HF.out hq.out HSM.out
        have HQS := hid hq2
        obtain ⟨A3, c3, hv3⟩ := own_form hn
        simp only [List.length_nil] at hv3
        subst hv3
        clear hn hq2
        have r0 := hrf.out.r0; have r1 := hrf.out.r1; have r2 := hrf.out.r2; have r3 := hrf.out.r3; have r4 := hrf.out.r4; have r5 := hrf.out.r5
        have f0 := hrf.out.rf 0; have f1 := hrf.out.rf 1; have f2 := hrf.out.rf 2; have f3 := hrf.out.rf 3; have f4 := hrf.out.rf 4; have f5 := hrf.out.rf 5
        have k0 := hrf.out.k0; have k1 := hrf.out.k1; have k2 := hrf.out.k2; have k3 := hrf.out.k3; have k4 := hrf.out.k4; have k5 := hrf.out.k5
        simp only at k1 k2 k3 k4
        have HBW := hid hrf.out.bel
        have b2 := hrf.out.b2
        have HSL : Hid (∀ a1 a2 a3 a4 a5 a6, SlI ((((((wr.setCell ⟨K.g2, 0, none⟩ a1).setCell ⟨K.g2, 1, none⟩ a2).setCell ⟨K.g2, 2, none⟩ a3).setCell ⟨K.g2, 3, none⟩ a4).setCell ⟨K.g2, 4, none⟩ a5).setCell ⟨K.g2, 5, none⟩ a6) ((((((wr.setCell ⟨K.g2, 0, none⟩ a1).setCell ⟨K.g2, 1, none⟩ a2).setCell ⟨K.g2, 2, none⟩ a3).setCell ⟨K.g2, 3, none⟩ a4).setCell ⟨K.g2, 4, none⟩ a5).setCell ⟨K.g2, 5, none⟩ a6).heap.size .i64 (.slice K.A K.n K.c) D) := hid (fun a1 a2 a3 a4 a5 a6 => by
          have hdl := hrf.out.dl
          simp only at hdl
          refine ⟨K.A, K.c, by rw [hdl], by rw [hdl]; exact hrf.out.hc, fun hp => ⟨K.gD, 0, hrf.out.hA (by omega), ?_, fun j hj => ?_⟩⟩
          · have := hrf.out.lD (by omega); simpa using this
          · rw [Nat.zero_add, set6_other wr j (fun q => (hrf.out.dD (by omega)).1 q.symm)]
            exact hrf.out.cD j (by omega))
        obtain ⟨D4, E4, mx4, em4, u04, u14⟩ := sq
        simp only at hD hmx hem hu0 hu1
        subst hD; subst hmx; subst hem; subst hu0; subst hu1
        clear hrf hdi hms
        go_wp2_with fail
        exact bodyPost_ret (v := knV (.slice K.A K.n K.c) mx4 em4 u04 u14 true) (by simp [results, Tryz.results6, go_sem, r0, r1, r2, r3, r4, r5]) rfl (refpost_ok HQS (HSL.out _ _ _ _ _ _) (below_set6 HBW.out b2 _ _ _ _ _ _))
      · exact ref_round l h24 w K HN gk _ _ q hq HF A0 c0 HA hK2 vT M T D mx em u0 u1 hT wr hrf hdi hms _ x7 x8 hfr

end Go.Proofs.YtfohdoahddommaaGreatDoor
