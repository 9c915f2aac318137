/- Layer 5, check: the document's Check: its walk, the last part. -/
import Derived.Test.YtfhlpbjdcdagjaaGreatDoorHba
import Derived.Deep.LoopGhost
import Derived.Deep.DeepCutAuto
import Derived.Deep.CutBlock
import Derived.Deep.QuietTactic
import Derived.BigQuiet
import Derived.BigRegion
import Derived.Maps.RangeWalk
import Derived.Deep.RegionHeld3
namespace Go.Proofs.YtfhlpbjdcdagjaaGreatDoor
open Go.RowKit
set_option linter.unusedVariables false
set_option maxRecDepth 100000

set_option maxRecDepth 100000 in
set_option maxHeartbeats 40000000 in
theorem ref_tail2 (l : List (Int × Int)) (h24 : l.length ≤ 24) (w : World) (K : RfK) (HN : Hid (K.n = l.length)) (gk : Nat) (K2 K3 : Act → World → Prop) (q : Option CkS) (c0 b1 o1 : Nat)
    (hK2 : ∀ a' w', NX w l K (.slice (some ⟨b1, o1, none⟩) l.length c0) gk a' w' → K2 a' w')
    (M T0 : List Pl) (D : List Int) (mx em : Int) (g cap p : Nat) (hms : 2 * (1650 - M.length) + (p + 1) ≤ gk) (hp : T0.length = p) (d e : Int) (t : Nat) (d0 : 0 ≤ d) (d1 : d ≤ 10) (e0 : 0 ≤ e) (e1 : e ≤ 5) (hpm : p + 1 ≤ M.length + 1) (hfew : M.length ≤ 1650) (gx : Nat) (h8 : ¬ 8 < d) (h4 : ¬ 4 < e) (htn : t < l.length) (hbB : b1 < w.heap.size) (o a : Int) (ca : w.cell? ⟨b1, o1 + t * 2, none⟩ = some (.int .i64 o)) (cb : w.cell? ⟨b1, o1 + t * 2 + 1, none⟩ = some (.int .i64 a)) (HR : Hid (rightI (o, a) = true)) (HO : Hid (opAt l t = o ∧ arAt l t = a)) (oa0 : 0 ≤ o) (oa1 : o ≤ 17) (oa2 : -524288 ≤ a) (oa3 : a ≤ 524287) (tk : Int) (HT : Hid (tkI o = tk))
    (HTC : Hid (∀ w : World, Calls Tryz.prog 31 #[.int .i64 o] w fun e w' => e = .returned (.int .i64 tk) ∧ w' = w)) (htd : ¬ d < tk) (v0 v1 : Bool)
    (HDG : Hid (DInv l (M ++ [((t : Int), d, e)]) (T0 ++ newsL l t d e) (D.set t d) (max mx d) (max em e) v0 v1)) (wc : World)
    (HX8 : Hid (RnAt w wc K (.slice (some ⟨g, 0, none⟩) p cap) ⟨M ++ [((t : Int), d, e)], T0, D.set t d, max mx d, max em e, v0, v1⟩ gx t d e)) (act : Act)
    (hfr : FrAt K (.slice (some ⟨b1, o1, none⟩) l.length c0) (.slice (some ⟨g, 0, none⟩) p cap) (.pointer (some ⟨gx, 0, none⟩)) (.int .i64 o) act) :
    (refCod 30).wp Tryz.prog (Exit.inBlock 3 (Exit.then K2 (Exit.inBlock 2 (Exit.then K3 (bodyPost Tryz.prog Tryz.f12 (fun e w' => RefPost w q e w')))))) act wc := by
  obtain ⟨u, rfl⟩ := hfr.open_
  clear hfr
  let Q' : Exit → Act → World → Prop := bodyPost Tryz.prog Tryz.f12 (fun e w' => RefPost w q e w')
  show (refCod 30).wp Tryz.prog (Exit.inBlock 3 (Exit.then K2 (Exit.inBlock 2 (Exit.then K3 Q')))) _ wc
  conv => arg 2; whnf
  obtain ⟨lv, hlv⟩ : ∃ y, lvI o = y := ⟨_, rfl⟩
  have HL := hid hlv
  have t0 : 0 ≤ tk ∧ tk ≤ 2 := by rw [← HT.out]; exact tk_in o
  have t1 : 0 ≤ lv ∧ lv ≤ 2 := by rw [← hlv]; exact lv_in o
  obtain ⟨t00, t01⟩ := t0
  obtain ⟨t10, t11⟩ := t1
  have HLC : Hid (∀ w : World, Calls Tryz.prog 32 #[.int .i64 o] w fun e w' => e = .returned (.int .i64 lv) ∧ w' = w) := hid (fun w => by rw [← hlv]; exact leave_any o w oa0 oa1)
  clear hlv
  have x0 := HX8.out.x0; have x1 := HX8.out.x1; have x2 := HX8.out.x2; have lx := HX8.out.lx
  go_upto_region 30 with fail
  go_cut [9] (fun s9 wx => ∃ gy, s9 = .pointer (some ⟨gy, 0, none⟩) ∧ Hid (YnAt w wx K (.slice (some ⟨g, 0, none⟩) p cap) ⟨M ++ [((t : Int), d, e)], T0, D.set t d, max mx d, max em e, v0, v1⟩ gx t d e gy ((t : Int) + 1) (d - tk + lv) e))
  case first =>
    have XA : Hid (∀ o, (wc.alloc o).cell? ⟨gx, 0, none⟩ = some (.int .i64 (t : Int)) ∧ (wc.alloc o).cell? ⟨gx, 1, none⟩ = some (.int .i64 d) ∧ (wc.alloc o).cell? ⟨gx, 2, none⟩ = some (.int .i64 e)) := hid (fun o => ⟨(World.cell?_alloc_lt wc _ _ lx).trans x0, (World.cell?_alloc_lt wc _ _ lx).trans x1, (World.cell?_alloc_lt wc _ _ lx).trans x2⟩)
    have HY := hid (YnAt.start HX8.out ((t : Int) + 1) (d - tk + lv) e).drew
    have W1 : Hid (IntKind.i64.wrap ((t : Int) + 1) = (t : Int) + 1) := hid (by rw [IntKind.wrap_i64]; omega)
    have W2 : Hid (IntKind.i64.wrap (d - tk) = d - tk) := hid (by rw [IntKind.wrap_i64]; omega)
    have W3 : Hid (IntKind.i64.wrap (d - tk + lv) = d - tk + lv) := hid (by rw [IntKind.wrap_i64]; omega)
    go_region_held3 (fun w' => w'.cell? ⟨gx, 0, none⟩ = some (.int .i64 (t : Int)) ∧ w'.cell? ⟨gx, 1, none⟩ = some (.int .i64 d) ∧ w'.cell? ⟨gx, 2, none⟩ = some (.int .i64 e)) (first | exact ⟨x0, x1, x2⟩ | exact XA.out _)
      (first
        | (go_at_call 31; (with_reducible refine (HTC.out _).mono ?_); rintro e w' ⟨rfl, rfl⟩)
        | (go_at_call 32; (with_reducible refine (HLC.out _).mono ?_); rintro e w' ⟨rfl, rfl⟩))
    all_goals
      go_wp2_with fail
      go_meet
      exact ⟨_, rfl, by rw [W1.out, W2.out, W3.out]; exact HY⟩
  case rest =>
    clear HX8 x0 x1 x2 lx
    obtain ⟨gy, rfl, HY⟩ := hcut
    obtain ⟨lf, hlf⟩ : ∃ z, d - tk + lv = z := ⟨_, rfl⟩
    have HLF : Hid (leftI o d = lf) := hid (by unfold leftI; rw [HT.out, HL.out, hlf])
    have hlf0 : -2 ≤ lf ∧ lf ≤ 12 := by omega
    obtain ⟨lf0, lf1⟩ := hlf0
    rw [hlf] at HY
    clear hlf
    obtain ⟨ev, hev⟩ : ∃ z, e + emI o = z := ⟨_, rfl⟩
    have HEV := hid hev; clear hev
    have y2 := HY.out.y2; have yf := HY.out.yf 2
    go_upto_if 148 with fail
    go_cut [] (fun wx => Hid (YnAt w wx K (.slice (some ⟨g, 0, none⟩) p cap) ⟨M ++ [((t : Int), d, e)], T0, D.set t d, max mx d, max em e, v0, v1⟩ gx t d e gy ((t : Int) + 1) lf ev))
    case first =>
      by_cases o14 : o = 14
      · have HY2 : Hid (YnAt w (wc.setCell ⟨gy, 2, none⟩ (.int .i64 (e + 1))) K (.slice (some ⟨g, 0, none⟩) p cap) ⟨M ++ [((t : Int), d, e)], T0, D.set t d, max mx d, max em e, v0, v1⟩ gx t d e gy ((t : Int) + 1) lf ev) := hid (by
          have h1 := HY.out.set2 (e + 1)
          rw [show ev = e + 1 by rw [← HEV.out, o14]; rfl]
          exact h1)
        subst o14
        clear HY
        go_wp2_with fail
        go_meet
        exact HY2
      · have n14 : (o == 14) = false := by simpa using o14
        have HE0 : Hid (ev = e) := hid (by rw [← HEV.out, em_none o14, Int.add_zero])
        clear o14
        go_wp2_with fail
        go_meet
        rw [HE0.out]; exact HY
    case rest =>
      clear HY y2 yf
      have HY := hcut; clear hcut
      have y0 := HY.out.y0; have y1 := HY.out.y1; have y2 := HY.out.y2
      go_upto_region 34 with fail
      have HZ := hid (ZnAt.start HY.out)
      clear y0 y1 y2 HY
      generalize wc.heap.size = gz at HZ ⊢
      generalize wc.alloc (.cells #[.int .i64 ((t : Int) + 1), .int .i64 lf, .int .i64 ev] 85) = X9 at HZ ⊢
      have x0 := HZ.out.yn.rn.x0
      have ca' := (HZ.out.yn.rn.rf.bel.cell (p := ⟨b1, o1 + t * 2, none⟩) hbB).trans ca
      have cb' := (HZ.out.yn.rn.rf.bel.cell (p := ⟨b1, o1 + t * 2 + 1, none⟩) hbB).trans cb
      have z0 := HZ.out.z0; have zf := HZ.out.zf 0
      go_cut [] (fun wx => Hid (ZnAt w wx K (.slice (some ⟨g, 0, none⟩) p cap) ⟨M ++ [((t : Int), d, e)], T0, D.set t d, max mx d, max em e, v0, v1⟩ gx t d e gy ((t : Int) + 1) lf ev gz ((t : Int) + 1 + a)))
      case first =>
        have HZ2 := hid (HZ.out.set0 ((t : Int) + 1 + a)).drew
        go_region
        all_goals
          go_wp2_with fail
          go_meet
          exact HZ2
      case rest =>
        clear HZ x0 ca' cb' z0 zf
        have HZ := hcut; clear hcut
        have z0 := HZ.out.z0; have zf := HZ.out.zf 0
        go_upto_if 169 with fail
        go_cut [] (fun wx => Hid (ZnAt w wx K (.slice (some ⟨g, 0, none⟩) p cap) ⟨M ++ [((t : Int), d, e)], T0, D.set t d, max mx d, max em e, v0, v1⟩ gx t d e gy ((t : Int) + 1) lf ev gz (farZ l.length t a)))
        case first =>
          by_cases hfz : (l.length : Int) < (t : Int) + 1 + a
          · have HZ2 : Hid (ZnAt w (wc.setCell ⟨gz, 0, none⟩ (.int .i64 l.length)) K (.slice (some ⟨g, 0, none⟩) p cap) ⟨M ++ [((t : Int), d, e)], T0, D.set t d, max mx d, max em e, v0, v1⟩ gx t d e gy ((t : Int) + 1) lf ev gz (farZ l.length t a)) := hid (by
              rw [show farZ l.length t a = l.length by unfold farZ; rw [if_pos hfz]]
              exact HZ.out.set0 _)
            clear HZ
            go_wp2_with fail
            go_meet
            exact HZ2
          · have HFZ : Hid (farZ l.length t a = (t : Int) + 1 + a) := hid (by unfold farZ; rw [if_neg hfz])
            go_wp2_with fail
            go_meet
            rw [HFZ.out]; exact HZ
        case rest =>
          clear HZ z0 zf
          have HZ := hcut; clear hcut
          obtain ⟨i1, hi1, hj0, hj1, hj2⟩ := info_parts plInfo
          obtain ⟨fz, hfz⟩ : ∃ z, farZ l.length t a = z := ⟨_, rfl⟩
          rw [hfz] at HZ
          have HFZ := hid hfz; clear hfz
          have hml := HDG.out.few h24
          rw [List.length_append] at hml
          simp only [List.length_cons, List.length_nil] at hml
          by_cases o0 : o = 0
          · have HD2 : Hid (DInv l (M ++ [((t : Int), d, e)]) T0 (D.set t d) (max mx d) (max em e) v0 v1) := hid (by
              have h1 := HDG.out
              rw [news_0 (by rw [HO.out.1]; exact o0), List.append_nil] at h1
              exact h1)
            have HP := hid HZ.out.yn.rn.rf
            clear HZ HDG
            subst o0
            go_wp2_with fail
            exact NX.mk (gk - 1) (by omega) ⟨rfl, rfl, rfl, rfl, rfl, rfl, ⟨M ++ [((t : Int), d, e)], T0, D.set t d, max mx d, max em e, v0, v1⟩, HP, HD2, by simp only [List.length_append, List.length_cons, List.length_nil]; omega⟩
          by_cases o16 : o = 16
          · have HD2 : Hid (DInv l (M ++ [((t : Int), d, e)]) (T0 ++ [(fz, lf, ev)]) (D.set t d) (max mx d) (max em e) v0 v1) := hid (by
              have h1 := HDG.out
              rw [news_16 (by rw [HO.out.1]; exact o16) htn (by rw [HO.out.2]; exact (jump_in HR.out (.inr o16)).1), HO.out.1, HO.out.2, HFZ.out, HLF.out, HEV.out] at h1
              exact h1)
            have z0 := HZ.out.z0; have z1 := HZ.out.z1; have z2 := HZ.out.z2
            clear HDG
            subst o16
            go_wp2_with (at_builtin; refine wpList_append_own_at _ rfl _ _ 86 rfl K.base 85 i1 (.agg #[.int .i64 0, .int .i64 0, .int .i64 0]) 3 24 Tryz.underlying86 hi1 hj0 hj1 hj2 rfl (by decide) (.slice (some ⟨g, 0, none⟩) p cap) T0.length (T0.flatMap plC) rfl (HZ.out.yn.rn.rf.own.alloc _) ⟨wc.heap.size, 0, none⟩ 1 1 (plC (fz, lf, ev)) rfl rfl (three_new wc (fz, lf, ev) _) (three_one _) (by unfold maxLen; omega) (by omega) (by have := HZ.out.yn.rn.rf.lb; simp only [World.size_alloc]; omega) ?_; intro v3 w3 hown3 hg3 _ hat3; have HP3 := hid ((HZ.out.yn.rn.rf.alloc _).push hg3 (fz, lf, ev) hown3 hat3); obtain ⟨g3, cap3, rfl, hrest⟩ := own_cell hown3 (by omega); rw [hp] at HP3; clear hrest hown3 hg3 hat3)
            exact NX.mk (gk - 1) (by omega) ⟨rfl, rfl, rfl, rfl, rfl, rfl, ⟨M ++ [((t : Int), d, e)], T0 ++ [(fz, lf, ev)], D.set t d, max mx d, max em e, v0, v1⟩, HP3, HD2, by simp only [List.length_append, List.length_cons, List.length_nil]; omega⟩
          by_cases o15 : o = 15
          · have HD2 : Hid (DInv l (M ++ [((t : Int), d, e)]) (T0 ++ [((t : Int) + 1, lf, ev)] ++ [(fz, lf, ev)]) (D.set t d) (max mx d) (max em e) v0 v1) := hid (by
              have h1 := HDG.out
              rw [news_15 (by rw [HO.out.1]; exact o15) htn (by rw [HO.out.2]; exact (jump_in HR.out (.inl o15)).1), HO.out.1, HO.out.2, HFZ.out, HLF.out, HEV.out] at h1
              rw [List.append_assoc]
              exact h1)
            have y0 := HZ.out.yn.y0; have y1 := HZ.out.yn.y1; have y2 := HZ.out.yn.y2
            have z0 := HZ.out.z0; have z1 := HZ.out.z1; have z2 := HZ.out.z2
            have lz : gz < wc.heap.size := World.block_lt_of_cell? wc _ z0
            clear HDG
            subst o15
            go_upto_region 40 with (at_builtin; refine wpList_append_own_at _ rfl _ _ 86 rfl K.base 85 i1 (.agg #[.int .i64 0, .int .i64 0, .int .i64 0]) 3 24 Tryz.underlying86 hi1 hj0 hj1 hj2 rfl (by decide) (.slice (some ⟨g, 0, none⟩) p cap) T0.length (T0.flatMap plC) rfl (HZ.out.yn.rn.rf.own.alloc _) ⟨wc.heap.size, 0, none⟩ 1 1 (plC ((t : Int) + 1, lf, ev)) rfl rfl (three_new wc ((t : Int) + 1, lf, ev) _) (three_one _) (by unfold maxLen; omega) (by omega) (by have := HZ.out.yn.rn.rf.lb; simp only [World.size_alloc]; omega) ?_; intro v3 w3 hown3 hg3 _ hat3; have HP3 := hid ((HZ.out.yn.rn.rf.alloc _).push hg3 ((t : Int) + 1, lf, ev) hown3 hat3); obtain ⟨g3, cap3, rfl, hrest⟩ := own_cell hown3 (by omega); rw [hp] at HP3; have z0 := hg3.cell ((World.cell?_alloc_lt wc _ _ lz).trans z0) (fun q => HZ.out.fr.2.2.2.2.1 q.symm); have z1 := hg3.cell ((World.cell?_alloc_lt wc _ _ lz).trans z1) (fun q => HZ.out.fr.2.2.2.2.1 q.symm); have z2 := hg3.cell ((World.cell?_alloc_lt wc _ _ lz).trans z2) (fun q => HZ.out.fr.2.2.2.2.1 q.symm); clear hrest hown3 hg3 hat3 y0 y1 y2)
            go_wp2_with (at_builtin; refine wpList_append_own_at _ rfl _ _ 86 rfl K.base 85 i1 (.agg #[.int .i64 0, .int .i64 0, .int .i64 0]) 3 24 Tryz.underlying86 hi1 hj0 hj1 hj2 rfl (by decide) (.slice (some ⟨g3, 0, none⟩) (p + 1) cap3) (T0 ++ [((t : Int) + 1, lf, ev)]).length ((T0 ++ [((t : Int) + 1, lf, ev)]).flatMap plC) rfl (HP3.out.own.alloc _) ⟨w3.heap.size, 0, none⟩ 1 1 (plC (fz, lf, ev)) rfl rfl (three_new w3 (fz, lf, ev) _) (three_one _) (by unfold maxLen; simp only [List.length_append, List.length_cons, List.length_nil]; omega) (by simp only [List.length_append, List.length_cons, List.length_nil]; omega) (by have := HP3.out.lb; simp only [World.size_alloc]; omega) ?_; intro v4 w4 hown4 hg4 _ hat4; have HP4 := hid ((HP3.out.alloc _).push hg4 (fz, lf, ev) hown4 hat4); obtain ⟨g4, cap4, rfl, hrest⟩ := own_cell hown4 (by simp only [List.length_append, List.length_cons, List.length_nil]; omega); rw [List.length_append, hp] at HP4; simp only [List.length_cons, List.length_nil] at HP4; clear hrest hown4 hg4 hat4)
            exact NX.mk (gk - 1) (by omega) ⟨rfl, rfl, rfl, rfl, rfl, rfl, ⟨M ++ [((t : Int), d, e)], T0 ++ [((t : Int) + 1, lf, ev)] ++ [(fz, lf, ev)], D.set t d, max mx d, max em e, v0, v1⟩, HP4, HD2, by simp only [List.length_append, List.length_cons, List.length_nil]; omega⟩
          have HD2 : Hid (DInv l (M ++ [((t : Int), d, e)]) (T0 ++ [((t : Int) + 1, lf, ev)]) (D.set t d) (max mx d) (max em e) v0 v1) := hid (by
            have h1 := HDG.out
            rw [news_else (by rw [HO.out.1]; exact o0) (by rw [HO.out.1]; exact o15) (by rw [HO.out.1]; exact o16) htn, HO.out.1, HLF.out, HEV.out] at h1
            exact h1)
          have y0 := HZ.out.yn.y0; have y1 := HZ.out.yn.y1; have y2 := HZ.out.yn.y2
          have n0 : (o == 0) = false := by simpa using o0
          have n15 : (o == 15) = false := by simpa using o15
          have n16 : (o == 16) = false := by simpa using o16
          have m0 : (o != 0) = true := by simpa using o0
          have m16 : (o != 16) = true := by simpa using o16
          clear HDG
          go_wp2_with (at_builtin; refine wpList_append_own_at _ rfl _ _ 86 rfl K.base 85 i1 (.agg #[.int .i64 0, .int .i64 0, .int .i64 0]) 3 24 Tryz.underlying86 hi1 hj0 hj1 hj2 rfl (by decide) (.slice (some ⟨g, 0, none⟩) p cap) T0.length (T0.flatMap plC) rfl (HZ.out.yn.rn.rf.own.alloc _) ⟨wc.heap.size, 0, none⟩ 1 1 (plC ((t : Int) + 1, lf, ev)) rfl rfl (three_new wc ((t : Int) + 1, lf, ev) _) (three_one _) (by unfold maxLen; omega) (by omega) (by have := HZ.out.yn.rn.rf.lb; simp only [World.size_alloc]; omega) ?_; intro v3 w3 hown3 hg3 _ hat3; have HP3 := hid ((HZ.out.yn.rn.rf.alloc _).push hg3 ((t : Int) + 1, lf, ev) hown3 hat3); obtain ⟨g3, cap3, rfl, hrest⟩ := own_cell hown3 (by omega); rw [hp] at HP3; clear hrest hown3 hg3 hat3)
          exact NX.mk (gk - 1) (by omega) ⟨rfl, rfl, rfl, rfl, rfl, rfl, ⟨M ++ [((t : Int), d, e)], T0 ++ [((t : Int) + 1, lf, ev)], D.set t d, max mx d, max em e, v0, v1⟩, HP3, HD2, by simp only [List.length_append, List.length_cons, List.length_nil]; omega⟩

end Go.Proofs.YtfhlpbjdcdagjaaGreatDoor
