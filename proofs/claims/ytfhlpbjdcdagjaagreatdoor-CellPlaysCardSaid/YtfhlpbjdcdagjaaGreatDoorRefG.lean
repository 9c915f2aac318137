/- Layer 5, check: the document's Check: its contract. -/
import Derived.Test.YtfhlpbjdcdagjaaGreatDoorRefF
import Derived.Deep.LoopGhost
import Derived.Deep.DeepCutAuto
import Derived.Deep.CutBlock
import Derived.Deep.QuietTactic
import Derived.BigQuiet
import Derived.BigRegion
import Derived.Maps.RangeWalk
import Derived.Deep.RegionHeld3
namespace Go.Proofs.YtfhlpbjdcdagjaaGreatDoor
open Go.RowKit
set_option linter.unusedVariables false
set_option maxRecDepth 100000

set_option maxRecDepth 100000 in
set_option maxHeartbeats 40000000 in
theorem refcheck_any (v : Value) (l : List (Int × Int)) (q : Option CkS) (hq : Hid (chk l = q)) (hl : l.length ≤ 1000000000000) (w : World) (hv : SlV w w.heap.size v l) :
    Calls Tryz.prog 12 #[v] w fun e w' => RefPost w q e w' := by
  have HV := hid hv
  obtain ⟨A0, c0, rfl, hc0, hA⟩ := hv
  have HA := hid hA; clear hA
  cases hf : fitsL l with
  | false =>
    have HF := hid hf
    obtain rfl : none = q := by rw [← hq.out]; unfold chk; rw [if_neg (by rw [hf]; simp)]
    clear hf hq
    go_enter Tryz.func12, Tryz.ntmps12
    go_wp2_with fail
    obtain ⟨W, hW, ⟨r0, r1, r2, r3, r4, r5⟩, rf, rs, HW⟩ := box6_of w 52 (.slice none 0 0) (.int .i64 0) (.int .i64 0) (.bool false) (.bool false) (.bool false)
    rw [hW]; clear hW
    refine (reffits_any _ l false HF hl W (HV.out.below HW.out |>.mono (by omega))).mono ?_
    rintro e w1 ⟨rfl, hb⟩
    obtain ⟨hc, hf⟩ := bcell hb
    have lw : w.heap.size < W.heap.size := by omega
    have lw1 : w.heap.size < w1.heap.size := by have := hb.size; omega
    have r0 := (hc _ _ lw).trans r0
    have r1 := (hc _ _ lw).trans r1
    have r2 := (hc _ _ lw).trans r2
    have r3 := (hc _ _ lw).trans r3
    have r4 := (hc _ _ lw).trans r4
    have r5 := (hc _ _ lw).trans r5
    have g0 := (hf _ _ lw).trans (rf 0)
    have g1 := (hf _ _ lw).trans (rf 1)
    have g2 := (hf _ _ lw).trans (rf 2)
    have g3 := (hf _ _ lw).trans (rf 3)
    have g4 := (hf _ _ lw).trans (rf 4)
    have g5 := (hf _ _ lw).trans (rf 5)
    have HB := hid (HW.out.trans (hb.mono HW.out.size))
    clear hc hf hb rf
    go_wp2_with fail
    refine bodyPost_ret (v := knV (.slice none 0 0) 0 0 false false false) (by simp [results, Tryz.results12, go_sem, r0, r1, r2, r3, r4, r5, lw1]) rfl (refpost_no (hid rfl) ((below_set6 HB.out (Nat.le_refl _) _ _ _ _ _ _).alloc (by simp; omega) _))
  | true =>
    have HF := hid hf
    have h24 := ((fitsL_iff l).1 hf).1
    clear hf
    have hmm := @run_makeMap Tryz.prog
    obtain ⟨i0, hi, hz0, hz1, hz2⟩ := info_parts intInfo5
    go_enter Tryz.func12, Tryz.ntmps12
    go_wp2_with fail
    obtain ⟨W, hW, ⟨r0, r1, r2, r3, r4, r5⟩, rf, rs, HW⟩ := box6_of w 52 (.slice none 0 0) (.int .i64 0) (.int .i64 0) (.bool false) (.bool false) (.bool false)
    rw [hW]; clear hW
    refine (reffits_any _ l true HF hl W (HV.out.below HW.out |>.mono (by omega))).mono ?_
    rintro e w1 ⟨rfl, hb⟩
    obtain ⟨hc, hf⟩ := bcell hb
    have lw : w.heap.size < W.heap.size := by omega
    have H0 := r0_new (W := w) (V := w1) (g2 := w.heap.size) (hid (HW.out.trans (hb.mono HW.out.size))) ((hc _ _ lw).trans r0) ((hc _ _ lw).trans r1) ((hc _ _ lw).trans r2) ((hc _ _ lw).trans r3) ((hc _ _ lw).trans r4) ((hc _ _ lw).trans r5) (fun j => (hf _ _ lw).trans (rf j)) (Nat.le_refl _)
    clear hc hf r0 r1 r2 r3 r4 r5 rf rs HW hb lw
    go_upto_block 0 with fail
    go_cut [2, 3, 4, 5] (fun s2 s3 s4 s5 wx => ∃ (K : RfK) (gT : Nat), s2 = .pointer (some ⟨K.g2, 0, none⟩) ∧ s3 = .pointer (some ⟨K.g3, 0, none⟩) ∧ s4 = .map (some K.bM) ∧ s5 = .slice (some ⟨gT, 0, none⟩) 1 1 ∧ Hid (K.n = l.length) ∧ Hid (RfAt w wx K (.slice (some ⟨gT, 0, none⟩) 1 1) ⟨[], [(0, 0, 0)], List.replicate l.length (-1), 0, 0, false, false⟩))
    case first =>
      go_wp2_with fail
      go_loopw [6] (fun i wr => ∃ (k : Nat) (v : Value), k ≤ l.length ∧ i = .int .i64 k ∧ Hid (R0At w wr w.heap.size w1.heap.size (w1.heap.size + 1) (w1.heap.size + 2) (w1.heap.size + 3) k v)) (fun i _ => l.length - (RowKit.intOf i).toNat)
      case atStart => exact ⟨0, _, Nat.zero_le _, rfl, H0⟩
      case round =>
        clear H0
        obtain ⟨k, v, hk, rfl, hs⟩ := hrel
        by_cases hlt : k < l.length
        · have c0 := hs.out.k0
          have lb : w1.heap.size < w1.heap.size + 3 := by omega
          have lt := hs.out.lt
          have f0 := hs.out.kf 0
          go_wp2_with (at_builtin; refine wpList_append_own _ rfl _ _ 42 rfl (w1.heap.size + 3) 3 i0 (.int .i64 0) 1 8 Tryz.underlying42 hi hz0 hz1 hz2 rfl (by decide) v k _ rfl (hs.out.own.alloc _) ⟨wr.heap.size, 0, none⟩ 1 1 [.int .i64 (-1)] rfl rfl (one_new wr _ _) (by intro u hu; simp at hu; rcases hu with rfl; rfl) (by unfold maxLen; omega) (by omega) (by simp; omega) ?_; intro v' w3 hown3 hg3 _; obtain ⟨g, cap, rfl, hg0, hg1, hrest⟩ := own_cell hown3 (by omega); have HS3 := r0_step hs hg3 hown3 hg0; have c0 := (World.cell?_of_block (R0At.low hs hg3 w1.heap.size lb)).trans c0; have f0 := (World.frozen?_of_block (R0At.low hs hg3 w1.heap.size lb)).trans f0; clear hown3 hg3 hrest)
          go_roundw
          case rel => exact ⟨k + 1, _, by omega, by go_num, HS3⟩
          case measure => simp [RowKit.intOf]; omega
        · obtain rfl : k = l.length := by omega
          obtain ⟨K, e2, e3, eM, en, rfl, hrf⟩ := r0_done hs
          have HR := hid hrf; have E2 := hid e2; have E3 := hid e3; have EM := hid eM; have EN := hid en
          clear hs hrf e2 e3 eM en
          go_wp2_with fail
          go_meet
          exact ⟨K, _, by rw [E2.out], by rw [E3.out], by rw [EM.out], rfl, EN, HR⟩
    case rest =>
      obtain ⟨K, gT, rfl, rfl, rfl, rfl, HN, HR⟩ := hcut
      clear H0 hmm hi hz0 hz1 hz2
      have HD := hid (dinv_start l)
      go_wp2_with fail
      refine wp_loop_ghost_k (RI w l K (.slice A0 l.length c0)) 3400 ⟨rfl, rfl, rfl, rfl, rfl, rfl, ⟨[], [(0, 0, 0)], List.replicate l.length (-1), 0, 0, false, false⟩, HR, HD, by simp⟩ ?_
      clear HR HD
      intro gk act wr hinv J K2 hJ hK
      have hK2 : ∀ a' w', NX w l K (.slice A0 l.length c0) gk a' w' → K2 a' w' := fun a' w' ⟨m, hm, hI⟩ => hK a' w' (Handed.intro m hm (hJ _ _ _ hI))
      clear hJ hK
      obtain ⟨hsz, hdf, f0, f2, f3, f4, s, hrf, hdi, hms⟩ := hinv
      obtain ⟨vT, hvT5⟩ : ∃ v, act.tmps.getD 5 undef = v := ⟨_, rfl⟩
      obtain ⟨x7, hx7⟩ : ∃ v, act.tmps.getD 7 undef = v := ⟨_, rfl⟩
      obtain ⟨x8, hx8⟩ : ∃ v, act.tmps.getD 8 undef = v := ⟨_, rfl⟩
      rw [hvT5] at hrf
      have hfr : FrAt K (.slice A0 l.length c0) vT x7 x8 act := ⟨hsz, hdf, f0, f2, f3, f4, hvT5, hx7, hx8⟩
      clear hsz hdf f0 f2 f3 f4 hvT5 hx7 hx8
      obtain ⟨M, T, D, mx, em, u0, u1⟩ := s
      simp only at hms
      by_cases hT : T = []
      · subst hT
        obtain ⟨u, rfl⟩ := hfr.open_
        clear hfr
        have hn := hrf.out.own
        have HSM := hid (hdi.out.done)
        obtain ⟨sq, hq2, hD, hmx, hem, hu0, hu1⟩ := sem_some HF.out hq.out HSM.out
        have HQS := hid hq2
        obtain ⟨A3, c3, hv3⟩ := own_form hn
        simp only [List.length_nil] at hv3
        subst hv3
        clear hn hq2
        have r0 := hrf.out.r0; have r1 := hrf.out.r1; have r2 := hrf.out.r2; have r3 := hrf.out.r3; have r4 := hrf.out.r4; have r5 := hrf.out.r5
        have f0 := hrf.out.rf 0; have f1 := hrf.out.rf 1; have f2 := hrf.out.rf 2; have f3 := hrf.out.rf 3; have f4 := hrf.out.rf 4; have f5 := hrf.out.rf 5
        have k0 := hrf.out.k0; have k1 := hrf.out.k1; have k2 := hrf.out.k2; have k3 := hrf.out.k3; have k4 := hrf.out.k4; have k5 := hrf.out.k5
        simp only at k1 k2 k3 k4
        have HBW := hid hrf.out.bel
        have b2 := hrf.out.b2
        have HSL : Hid (∀ a1 a2 a3 a4 a5 a6, SlI ((((((wr.setCell ⟨K.g2, 0, none⟩ a1).setCell ⟨K.g2, 1, none⟩ a2).setCell ⟨K.g2, 2, none⟩ a3).setCell ⟨K.g2, 3, none⟩ a4).setCell ⟨K.g2, 4, none⟩ a5).setCell ⟨K.g2, 5, none⟩ a6) ((((((wr.setCell ⟨K.g2, 0, none⟩ a1).setCell ⟨K.g2, 1, none⟩ a2).setCell ⟨K.g2, 2, none⟩ a3).setCell ⟨K.g2, 3, none⟩ a4).setCell ⟨K.g2, 4, none⟩ a5).setCell ⟨K.g2, 5, none⟩ a6).heap.size .i64 (.slice K.A K.n K.c) D) := hid (fun a1 a2 a3 a4 a5 a6 => by
          have hdl := hrf.out.dl
          simp only at hdl
          refine ⟨K.A, K.c, by rw [hdl], by rw [hdl]; exact hrf.out.hc, fun hp => ⟨K.gD, 0, hrf.out.hA (by omega), ?_, fun j hj => ?_⟩⟩
          · have := hrf.out.lD (by omega); simpa using this
          · rw [Nat.zero_add, set6_other wr j (fun q => (hrf.out.dD (by omega)).1 q.symm)]
            exact hrf.out.cD j (by omega))
        obtain ⟨D4, E4, mx4, em4, u04, u14⟩ := sq
        simp only at hD hmx hem hu0 hu1
        subst hD; subst hmx; subst hem; subst hu0; subst hu1
        clear hrf hdi hms
        go_wp2_with fail
        exact bodyPost_ret (v := knV (.slice K.A K.n K.c) mx4 em4 u04 u14 true) (by simp [results, Tryz.results12, go_sem, r0, r1, r2, r3, r4, r5]) rfl (refpost_ok HQS (HSL.out _ _ _ _ _ _) (below_set6 HBW.out b2 _ _ _ _ _ _))
      · exact ref_round l h24 w K HN gk _ _ q hq HF A0 c0 HA hK2 vT M T D mx em u0 u1 hT wr hrf hdi hms _ x7 x8 hfr

end Go.Proofs.YtfhlpbjdcdagjaaGreatDoor
