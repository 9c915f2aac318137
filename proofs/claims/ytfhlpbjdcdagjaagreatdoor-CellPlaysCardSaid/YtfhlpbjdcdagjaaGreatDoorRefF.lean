/- Layer 5, check: the document's Check: its walk, a round. -/
import Derived.Test.YtfhlpbjdcdagjaaGreatDoorRefE
import Derived.Deep.LoopGhost
import Derived.Deep.DeepCutAuto
import Derived.Deep.CutBlock
import Derived.Deep.QuietTactic
import Derived.BigQuiet
import Derived.BigRegion
import Derived.Maps.RangeWalk
import Derived.Deep.RegionHeld3
namespace Go.Proofs.YtfhlpbjdcdagjaaGreatDoor
open Go.RowKit
set_option linter.unusedVariables false
set_option maxRecDepth 100000

set_option maxRecDepth 100000 in
set_option maxHeartbeats 40000000 in
theorem ref_round (l : List (Int × Int)) (h24 : l.length ≤ 24) (w : World) (K : RfK) (HN : Hid (K.n = l.length)) (gk : Nat) (K2 K3 : Act → World → Prop) (q : Option CkS) (hq : Hid (chk l = q)) (HF : Hid (fitsL l = true)) (A0 : Option Addr) (c0 : Nat)
    (HA : Hid (0 < l.length → ∃ b o, A0 = some ⟨b, o, none⟩ ∧ b < w.heap.size ∧ ∀ j, j < l.length → w.cell? ⟨b, o + j * 2, none⟩ = some (.int .i64 (l.getD j (0, 0)).1) ∧ w.cell? ⟨b, o + j * 2 + 1, none⟩ = some (.int .i64 (l.getD j (0, 0)).2)))
    (hK2 : ∀ a' w', NX w l K (.slice A0 l.length c0) gk a' w' → K2 a' w')
    (vT : Value) (M T : List Pl) (D : List Int) (mx em : Int) (u0 u1 : Bool) (hT : ¬ T = []) (wr : World) (hrf : Hid (RfAt w wr K vT ⟨M, T, D, mx, em, u0, u1⟩)) (hdi : Hid (DInv l M T D mx em u0 u1)) (hms : 2 * (1650 - M.length) + T.length ≤ gk) (act : Act) (x7 x8 : Value)
    (hfr : FrAt K (.slice A0 l.length c0) vT x7 x8 act) :
    (refCod 10).wp Tryz.prog (Exit.then K2 (Exit.inBlock 2 (Exit.then K3 (bodyPost Tryz.prog Tryz.f12 (fun e w' => RefPost w q e w'))))) act wr := by
  obtain ⟨u, rfl⟩ := hfr.open_
  clear hfr
  let Q' : Exit → Act → World → Prop := bodyPost Tryz.prog Tryz.f12 (fun e w' => RefPost w q e w')
  show (refCod 10).wp Tryz.prog (Exit.then K2 (Exit.inBlock 2 (Exit.then K3 Q'))) _ wr
  conv => arg 2; whnf
  obtain ⟨T0, x, rfl⟩ : ∃ T0 x, T = T0 ++ [x] := ⟨T.dropLast, T.getLast hT, (List.dropLast_concat_getLast hT).symm⟩
  clear hT
  obtain ⟨g, cap, hvT, hrest⟩ := own_cell hrf.out.own (by simp)
  clear hrest
  obtain ⟨p, hp⟩ : ∃ p, T0.length = p := ⟨_, rfl⟩
  have hlen : (T0 ++ [x]).length = p + 1 := by simp [hp]
  rw [hlen] at hvT hms
  subst hvT
  obtain ⟨x0, d, e⟩ := x
  obtain ⟨t, rfl, htl, hr⟩ := hdi.out.last
  obtain ⟨c1, c2, c3, hcap⟩ := hrf.out.last rfl hp
  have HP := hid (hrf.out.pop rfl hp)
  try simp only at c1 c2 c3
  obtain ⟨d0, d1, e0, e1⟩ := rch_bounds hr
  have HWM : Hid (∀ y ∈ M, Wf3 y) := hid (fun y hy => rch_wf h24 (hdi.out.rch y (.inl hy)))
  have HWX : Hid (Wf3 ((t : Int), d, e)) := hid (rch_wf h24 ⟨t, rfl, hr⟩)
  have hpm := hdi.out.lenT
  have hfew := hdi.out.few h24
  try simp only at hpm hfew
  rw [hlen] at hpm
  have HRC := hid hr
  have hnn : 0 < p + 1 := by omega
  clear hlen hr hrf
  go_upto_region 13 with fail
  have HX := hid (RnAt.start HP.out (t : Int) d e)
  generalize hgx : wr.heap.size = gx at HX ⊢
  generalize wr.alloc (.cells #[.int .i64 (t : Int), .int .i64 d, .int .i64 e] 85) = X at HX ⊢
  clear hgx c1 c2 c3 HP hcap
  by_cases hm : ((t : Int), d, e) ∈ M
  · have hlk := met_look HX.out.rf.met HWM.out HWX.out true ⟨fun _ => hm, fun _ => rfl⟩
    have x0 := HX.out.x0; have x1 := HX.out.x1; have x2 := HX.out.x2
    have HD2 := hid (hdi.out.met hm)
    have HX2 := hid HX.out.rf
    clear HX hdi hm
    go_wp2_with fail
    exact NX.mk (gk - 1) (by omega) ⟨rfl, rfl, rfl, rfl, rfl, rfl, ⟨M, T0, D, mx, em, u0, u1⟩, HX2, HD2, by simp only; omega⟩
  · have hlk := met_look HX.out.rf.met HWM.out HWX.out false ⟨(fun q => by cases q), fun q => absurd q hm⟩
    have x0 := HX.out.x0; have x1 := HX.out.x1; have x2 := HX.out.x2
    have HNM := hid hm; clear hm
    obtain ⟨kl, hkl⟩ := key_pl HWX.out
    have HKL := hid hkl; clear hkl
    have HNP : Hid (∀ y ∈ metL M, y.1 ≠ plV ((t : Int), d, e)) := hid (fun y hy q => by
      obtain ⟨z, hz, rfl⟩ := List.mem_map.1 hy
      have := plV_inj q
      subst this
      exact HNM.out hz)
    have hml : (metL M).length < maxLen := by unfold metL maxLen; rw [List.length_map]; omega
    have HML := hid hml; clear hml
    go_upto_if 55 with (at_mapUpdate; refine wpList_update_add rfl _ _ _ _ rfl 85 4 keyedPl Tryz.underlying83 K.bM (metL M) rfl HX.out.rf.met (met_keys HWM.out) HML.out _ _ kl rfl rfl HKL.out HNP.out ?_; intro X2 hm2 hg2; have HX2 := hid (HX.out.setM hg2 ((t : Int), d, e) hm2); clear hm2 hg2 hlk x0 x1 x2; have x1 := HX2.out.x1; have k1 := HX2.out.rf.k1; have f1 := HX2.out.rf.kf 1; simp only at k1)
    clear HX HNP HML HKL HWX HWM
    go_cut [] (fun wx => Hid (RnAt w wx K (.slice (some ⟨g, 0, none⟩) p cap) ⟨M ++ [((t : Int), d, e)], T0, D, max mx d, em, u0, u1⟩ gx t d e))
    case first =>
      by_cases hmx : mx < d
      · have HY := hid (HX2.out.setK ⟨M ++ [((t : Int), d, e)], T0, D, max mx d, em, u0, u1⟩ rfl rfl rfl 1 (.int .i64 d) (by omega) (by omega) (by simp only [if_true]; rw [Int.max_eq_right (by omega)]) rfl rfl rfl)
        go_wp2_with fail
        go_meet
        exact HY
      · have HM : Hid (max mx d = mx) := hid (Int.max_eq_left (by omega))
        go_wp2_with fail
        go_meet
        rw [HM.out]; exact HX2
    case rest =>
      clear HX2 x1 k1 f1
      have HX3 := hcut; clear hcut
      have x2 := HX3.out.x2
      have k2 := HX3.out.rf.k2; have f2 := HX3.out.rf.kf 2
      simp only at k2
      go_upto_if 63 with fail
      go_cut [] (fun wx => Hid (RnAt w wx K (.slice (some ⟨g, 0, none⟩) p cap) ⟨M ++ [((t : Int), d, e)], T0, D, max mx d, max em e, u0, u1⟩ gx t d e))
      case first =>
        by_cases hmx : em < e
        · have HY := hid (HX3.out.setK ⟨M ++ [((t : Int), d, e)], T0, D, max mx d, max em e, u0, u1⟩ rfl rfl rfl 2 (.int .i64 e) (by omega) (by omega) rfl (by simp only [if_true]; rw [Int.max_eq_right (by omega)]) rfl rfl)
          go_wp2_with fail
          go_meet
          exact HY
        · have HM : Hid (max em e = em) := hid (Int.max_eq_left (by omega))
          go_wp2_with fail
          go_meet
          rw [HM.out]; exact HX3
      case rest =>
        clear HX3 x2 k2 f2
        have HX4 := hcut; clear hcut
        have x0 := HX4.out.x0; have x1 := HX4.out.x1; have x2 := HX4.out.x2
        by_cases hfar : 8 < d ∨ 4 < e
        · have HQN := hid (not_good_none hq.out (hdi.out.far hfar))
          obtain rfl := HQN.out
          have HBW := hid HX4.out.rf.bel
          have b2 := HX4.out.rf.b2
          have r0 := HX4.out.rf.r0; have r1 := HX4.out.rf.r1; have r2 := HX4.out.rf.r2; have r3 := HX4.out.rf.r3; have r4 := HX4.out.rf.r4; have r5 := HX4.out.rf.r5
          have f0 := HX4.out.rf.rf 0; have f1 := HX4.out.rf.rf 1; have f2 := HX4.out.rf.rf 2; have f3 := HX4.out.rf.rf 3; have f4 := HX4.out.rf.rf 4; have f5 := HX4.out.rf.rf 5
          clear HX4 HQN
          by_cases h8 : 8 < d
          · clear hfar
            go_wp2_with fail
            exact bodyPost_ret (v := knV (.slice none 0 0) 0 0 false false false) (by simp [results, Tryz.results12, go_sem, r0, r1, r2, r3, r4, r5]) rfl (refpost_no (hid rfl) (below_set6 HBW.out b2 _ _ _ _ _ _))
          · have h4 : 4 < e := by omega
            clear hfar
            go_wp2_with fail
            exact bodyPost_ret (v := knV (.slice none 0 0) 0 0 false false false) (by simp [results, Tryz.results12, go_sem, r0, r1, r2, r3, r4, r5]) rfl (refpost_no (hid rfl) (below_set6 HBW.out b2 _ _ _ _ _ _))
        have h8 : ¬ 8 < d := by omega
        have h4 : ¬ 4 < e := by omega
        clear hfar
        by_cases htn : t < l.length
        · obtain ⟨xd, hxd⟩ : ∃ z, D.getD t 0 = z := ⟨_, rfl⟩
          have HXD := hid hxd
          have k0 := HX4.out.rf.k0
          have hA := HX4.out.rf.hA (by rw [HN.out]; omega)
          have cd := HX4.out.rf.cD t (by rw [HN.out]; exact htn)
          have fd := HX4.out.rf.fD t (by rw [HN.out]; exact htn)
          have hcc := HX4.out.rf.hc
          rw [hA, HN.out] at k0
          rw [HN.out] at hcc
          simp only at cd
          rw [hxd] at cd
          obtain ⟨β, hβ⟩ : ∃ β, (decide (0 ≤ xd) && !(xd == d)) = β := ⟨_, rfl⟩
          clear hA hxd
          go_upto_region 22 with fail
          go_cut [98] (fun s98 wx => s98 = .bool β ∧ Hid (RnAt w wx K (.slice (some ⟨g, 0, none⟩) p cap) ⟨M ++ [((t : Int), d, e)], T0, D, max mx d, max em e, u0, u1⟩ gx t d e))
          case first =>
            by_cases q0 : 0 ≤ xd
            · have hq0 : decide (0 ≤ xd) = true := decide_eq_true q0
              rw [hq0, Bool.true_and] at hβ
              have Hβ := hid hβ; clear hβ
              go_quiet (fail)
              go_wp2_with fail
              go_meet
              exact ⟨by rw [← Hβ.out] <;> rfl, hid (HX4.out.drewN _)⟩
            · have hq0 : decide (0 ≤ xd) = false := decide_eq_false q0
              rw [hq0, Bool.false_and] at hβ
              have Hβ := hid hβ; clear hβ
              go_quiet (fail)
              go_wp2_with fail
              go_meet
              exact ⟨by rw [← Hβ.out] <;> rfl, hid (HX4.out.drewN _)⟩
          case rest =>
            clear HX4 k0 cd fd hcc x0 x1 x2
            obtain ⟨rfl, HX5⟩ := hcut
            have Hβ := hid hβ; clear hβ
            have x0 := HX5.out.x0; have x1 := HX5.out.x1; have x2 := HX5.out.x2
            cases β with
            | true =>
              have htwo : 0 ≤ xd ∧ xd ≠ d := by
                have := Hβ.out
                rw [Bool.and_eq_true, decide_eq_true_eq] at this
                simpa using this
              have HQN := hid (not_good_none hq.out (hdi.out.two htn (by rw [HXD.out]; exact htwo.1) (by rw [HXD.out]; exact htwo.2)))
              obtain rfl := HQN.out
              have HBW := hid HX5.out.rf.bel
              have b2 := HX5.out.rf.b2
              have r0 := HX5.out.rf.r0; have r1 := HX5.out.rf.r1; have r2 := HX5.out.rf.r2; have r3 := HX5.out.rf.r3; have r4 := HX5.out.rf.r4; have r5 := HX5.out.rf.r5
              have f0 := HX5.out.rf.rf 0; have f1 := HX5.out.rf.rf 1; have f2 := HX5.out.rf.rf 2; have f3 := HX5.out.rf.rf 3; have f4 := HX5.out.rf.rf 4; have f5 := HX5.out.rf.rf 5
              clear HX5 HQN htwo
              go_wp2_with fail
              exact bodyPost_ret (v := knV (.slice none 0 0) 0 0 false false false) (by simp [results, Tryz.results12, go_sem, r0, r1, r2, r3, r4, r5]) rfl (refpost_no (hid rfl) (below_set6 HBW.out b2 _ _ _ _ _ _))
            | false =>
              iterate 5 go_step
              refine ref_tail1 l h24 w K HN gk _ _ q hq HF A0 c0 HA (by assumption) M T0 D mx em g cap p hms hp d e t d0 d1 e0 e1 hpm hfew gx h8 h4 htn u0 u1 hdi HNM xd HXD Hβ _ HX5 _ x8 ?_
              exact ⟨rfl, rfl, rfl, rfl, rfl, rfl, rfl, rfl, rfl⟩
        · obtain rfl : t = l.length := by omega
          have HD2 := hid (hdi.out.at_end HNM.out (by omega) (by omega))
          have hml := HD2.out.few h24
          rw [List.length_append] at hml
          simp only [List.length_cons, List.length_nil] at hml
          have HX5 := hid HX4.out.rf
          clear HX4 hdi
          go_wp2_with fail
          exact NX.mk (gk - 1) (by omega) ⟨rfl, rfl, rfl, rfl, rfl, rfl, ⟨M ++ [((l.length : Int), d, e)], T0, D, max mx d, max em e, u0, u1⟩, HX5, HD2, by simp only [List.length_append, List.length_cons, List.length_nil]; omega⟩

end Go.Proofs.YtfhlpbjdcdagjaaGreatDoor
