/- Layer 7, cell: CellGroups. -/
import Derived.Test.YtfhlpbjdcdagjaaGreatDoorHar
import Derived.Test.YtfhlpbjdcdagjaaGreatDoorHan
namespace Go.Proofs.YtfhlpbjdcdagjaaGreatDoor
open Go.RowKit Go.Lib Go.MapKept
set_option linter.unusedVariables false
set_option maxRecDepth 100000

/-- Entries that came in. -/
structure SeIn (w : World) (v : Value) (l : List Ent) : Prop where
  row : SlE w w.heap.size v l
  fits : ∀ j, j < l.length → entI (l.getD j e0)

theorem entB_I {x : Ent} (h : entB x = true) : entI x := by
  obtain ⟨n, k, a, b, c, d, rfl⟩ := ent_of (x := x)
  unfold entB setB nodeB keyB at h
  simp only [Bool.and_eq_true, decide_eq_true_eq] at h
  refine ⟨⟨⟨?_, ?_⟩, ⟨?_, ?_⟩⟩, rgt4_wf h.2⟩
  all_goals simp only
  all_goals omega

theorem ents_fit {D : CTab} (h : OkT D) (S : Int × Int → Bool) : ∀ j, j < (ents D S).length → entI ((ents D S).getD j e0) := by
  intro j hj
  have := List.all_eq_true.1 (ents_all h S) _ (List.getElem_mem hj)
  rw [List.getD_eq_getElem?_getD, List.getElem?_eq_getElem hj]
  exact entB_I this

set_option maxHeartbeats 4000000 in
theorem law_groups (v : Value) (l : List Ent) (vs : Value) (gs : List Int) (w : World) (hv : SeIn w v l) (hs : SlI w w.heap.size .i64 vs gs) (he : Env4 w) :
    Calls Tryz.prog 5 #[v, vs] w fun e w' => e = .returned (.bool true) ∧ Below w.heap.size w w' := by
  have HE := hid he; have HS := hid hs; have HV := hid hv.row; have HI := hid hv.fits
  clear he
  obtain ⟨⟨A0, c0, rfl, _, _⟩, _⟩ := hv
  obtain ⟨A1, c1, rfl, _, _⟩ := hs
  go_enter Tryz.func5, Tryz.ntmps5
  go_wp2_with fail
  refine (awake7 w HE.out).mono ?_
  rintro e w1 ⟨rfl, hb⟩
  have HB1 := hid hb
  clear hb
  by_cases hlen : 100 < l.length
  · have hlen' : (100 : Int) < (l.length : Int) := by omega
    go_wp2_with fail
    go_ret
    exact ⟨rfl, HB1.out⟩
  · have hlen' : ¬ (100 : Int) < (l.length : Int) := by omega
    by_cases hlg : 20 < gs.length
    · have hlg' : (20 : Int) < (gs.length : Int) := by omega
      go_wp2_with fail
      go_ret
      exact ⟨rfl, HB1.out⟩
    · have hlg' : ¬ (20 : Int) < (gs.length : Int) := by omega
      have HLG : Hid (l.length ≤ 100 ∧ gs.length ≤ 20) := hid ⟨by omega, by omega⟩
      go_wp2_with fail
      refine (cnew_any _ l (by omega) HI.out w1 ((HV.out.below HB1.out).mono HB1.out.size)).mono ?_
      rintro e w2 ⟨⟨hn, rfl⟩ | ⟨hn, tb, m, rfl, ht⟩, hb⟩
      · have HB2 := hid (HB1.out.trans (hb.mono HB1.out.size))
        clear hb
        go_wp2_with fail
        go_ret
        exact ⟨rfl, HB2.out⟩
      · have HB2 := hid (HB1.out.trans (hb.mono HB1.out.size))
        have HT2 := hid (ht.mono HB1.out.size)
        obtain ⟨D, hD⟩ : ∃ D, setsT noTab l = D := ⟨_, rfl⟩
        rw [hD] at HT2
        clear hb ht hn hD
        go_wp2_with fail
        go_loopw [7, 8] (fun vm vn wr => ∃ (n M : Nat), n ≤ 8 ∧ vm = .int .i64 M ∧ vn = .int .i64 n ∧ M ≤ 512 ∧ Hid ((ents D fun p => decide (nodeGroup p < (n * 8 : Nat))).length = M) ∧ Hid (Below w2.heap.size w2 wr)) (fun _ vn _ => 8 - (RowKit.intOf vn).toNat)
        case atStart => exact ⟨0, 0, by omega, rfl, rfl, by omega, hid (by rw [Nat.zero_mul, group_none]; rfl), hid (Below.refl _ _)⟩
        case round =>
          obtain ⟨n, M, hn8, rfl, rfl, hM, HM, HBr⟩ := hrel
          by_cases hn : n < 8
          · obtain ⟨wo, rfl⟩ : ∃ wo : World, wo = wr := ⟨_, rfl⟩
            have hni : ((n : Int) < 8) := by omega
            go_wp2_with fail
            go_loopw [7, 9] (fun vm vg wr => ∃ (g M : Nat), g ≤ 8 ∧ vm = .int .i64 M ∧ vg = .int .i64 g ∧ M ≤ 512 ∧ Hid ((ents D fun p => decide (nodeGroup p < (n * 8 + g : Nat))).length = M) ∧ Hid (Below w2.heap.size w2 wr)) (fun _ vg _ => 8 - (RowKit.intOf vg).toNat)
            case atStart => exact ⟨0, M, by omega, rfl, rfl, hM, by simpa using HM, HBr⟩
            case round =>
              obtain ⟨g, M2, hg8, rfl, rfl, hM2, HM2, HBr2⟩ := hrel
              by_cases hg : g < 8
              · have hgi : ((g : Int) < 8) := by omega
                have HSL : Hid (SlI (wr.alloc (.cells #[.int .i64 (g : Int)] 3)) (wr.alloc (.cells #[.int .i64 (g : Int)] 3)).heap.size .i64 (.slice (some ⟨wr.heap.size, 0, none⟩) 1 1) [(g : Int)]) := hid (by
                  have := SlI.new wr .i64 [(g : Int)] 3
                  rw [World.size_alloc]
                  exact this)
                have HB3 := hid (HBr2.out.trans (((Below.refl wr.heap.size wr).alloc (Nat.le_refl _) (.cells #[.int .i64 (g : Int)] 3)).mono HBr2.out.size))
                go_wp2_with fail
                refine (of_any_ tb m D (n : Int) _ [(g : Int)] (by simp) _ (HT2.out.at_.below HB3.out) HSL.out).mono ?_
                rintro e w4 ⟨A4, c4, rfl, ho4, hb4⟩
                have hst := group_step D n g hn hg
                obtain ⟨N, hN⟩ : ∃ N, (ents D (amongB (n : Int) [(g : Int)])).length = N := ⟨_, rfl⟩
                rw [hN, HM2.out] at hst
                have hcap := ents_len D fun p => decide (nodeGroup p < (n * 8 + g + 1 : Nat))
                have hMN : M2 + N ≤ 512 := by omega
                have HST : Hid ((ents D fun p => decide (nodeGroup p < (n * 8 + (g + 1) : Nat))).length = M2 + N) := hid (by rw [show n * 8 + (g + 1) = n * 8 + g + 1 by omega]; exact hst.symm)
                have HB4 := hid (HB3.out.trans (hb4.mono HB3.out.size))
                rw [hN]
                clear ho4 hb4 hst hN hcap
                go_wp2_with fail
                go_roundw
                case rel => exact ⟨g + 1, M2 + N, by omega, by go_num, by go_num, hMN, HST, HB4⟩
                case measure => simp [RowKit.intOf]; omega
              · have hge : g = 8 := by omega
                subst hge
                go_wp2_with fail
                go_roundw
                case rel => exact ⟨n + 1, M2, by omega, rfl, by go_num, hM2, hid (by rw [show (n + 1) * 8 = n * 8 + 8 by omega]; exact HM2.out), HBr2⟩
                case measure => simp [RowKit.intOf]; omega
          · have hne : n = 8 := by omega
            subst hne
            have HM8 : Hid ((ents D fun _ => true).length = M) := hid (by rw [← group_all D]; exact HM.out)
            have HT3 := hid (HT2.out.below HBr.out)
            have HB3 := hid (HB2.out.trans (HBr.out.mono HB2.out.size))
            have HMM : Hid (M ≤ 512) := hid hM
            clear hM
            go_wp2_with fail
            refine (all_any tb m D wr HT3.out.at_).mono ?_
            rintro e w4 ⟨A4, c4, rfl, ho4, hb4⟩
            have HT4 := hid (HT3.out.below hb4)
            have HB4 := hid (HB3.out.trans (hb4.mono HB3.out.size))
            have HSE := hid (SlE.of_own ho4)
            clear ho4 hb4
            rw [HM8.out] at HSE ⊢
            go_wp2_with fail
            refine (cnew_any _ (ents D fun _ => true) (by have := ents_len D fun _ => true; omega) (ents_fit HT4.out.at_.ok _) w4 (by simpa only [HM8.out] using HSE.out)).mono ?_
            rintro e w5 ⟨⟨hn, rfl⟩ | ⟨hn, tu, mu, rfl, hu⟩, hb⟩
            · rw [ents_all HT4.out.at_.ok] at hn; cases hn
            rw [sets_ents HT4.out.at_.ok] at hu
            have HU5 := hid hu
            have HT5 := hid (HT4.out.below hb)
            have HB5 := hid (HB4.out.trans (hb.mono HB4.out.size))
            have HAP : Hid (foot tb m ≠ tu ∧ mu ≠ some (foot tb m)) := hid (by
              have h1 : foot tb m < w4.heap.size := by
                cases m with
                | none => exact HT4.out.at_.lt
                | some b => exact HT4.out.at_.mlt b rfl
              refine ⟨fun e => ?_, fun e => ?_⟩
              · have := HU5.out.le; omega
              · have := HU5.out.mle _ e; omega)
            clear hn hu hb HSE
            go_wp2_with fail
            refine (all_any tb m D w5 HT5.out.at_).mono ?_
            rintro e w6 ⟨A6, c6, rfl, ho6, hb6⟩
            have HT6 := hid (HT5.out.below hb6)
            have HU6 := hid (HU5.out.below hb6)
            have HB6 := hid (HB5.out.trans (hb6.mono HB5.out.size))
            clear ho6 hb6
            rw [HM8.out]
            go_wp2_with fail
            refine (all_any tu mu D w6 HU6.out.at_).mono ?_
            rintro e w7 ⟨A7, c7, rfl, ho7, hb7⟩
            have HT7 := hid (HT6.out.below hb7)
            have HU7 := hid (HU6.out.below hb7)
            have HB7 := hid (HB6.out.trans (hb7.mono HB6.out.size))
            have HSE7 := hid (SlE.of_own ho7)
            clear ho7 hb7
            go_wp2_with fail
            refine (all_any tb m D w7 HT7.out.at_).mono ?_
            rintro e w8 ⟨A8, c8, rfl, ho8, hb8⟩
            have HT8 := hid (HT7.out.below hb8)
            have HU8 := hid (HU7.out.below hb8)
            have HB8 := hid (HB7.out.trans (hb8.mono HB7.out.size))
            have HSE8 := hid (SlE.of_own ho8)
            have HSE78 := hid (HSE7.out.up hb8)
            clear ho8 hb8
            go_wp2_with fail
            refine (csame_any _ _ (ents D fun _ => true) (ents D fun _ => true) true (hid (by simp)) (by have := ents_len D fun _ => true; omega) (by have := ents_len D fun _ => true; omega) w8 HSE78.out HSE8.out).mono ?_
            rintro e w9 ⟨rfl, hb9⟩
            have HT9 := hid (HT8.out.below hb9)
            have HU9 := hid (HU8.out.below hb9)
            have HB9 := hid (HB8.out.trans (hb9.mono HB8.out.size))
            clear hb9 HSE7 HSE8 HSE78
            have HSL := fun (W : World) (hb : Hid (Below w.heap.size w W)) => ((HS.out.below hb.out).mono hb.out.size)
            have HSLH := hid HSL
            clear HSL
            go_wp2_with fail
            refine (all_any tb m D w9 HT9.out.at_).mono ?_
            rintro e w10 ⟨A10, c10, rfl, ho10, hb10⟩
            have HT10 := hid (HT9.out.below hb10)
            have HU10 := hid (HU9.out.below hb10)
            have HB10 := hid (HB9.out.trans (hb10.mono HB9.out.size))
            clear ho10 hb10
            rw [HM8.out]
            go_wp2_with fail
            refine (of_any_ tb m D 1 _ gs (by have := HLG.out; omega) w10 HT10.out.at_ (HSLH.out w10 HB10)).mono ?_
            rintro e w11 ⟨A11, c11, rfl, ho11, hb11⟩
            have HT11 := hid (HT10.out.below hb11)
            have HU11 := hid (HU10.out.below hb11)
            have HB11 := hid (HB10.out.trans (hb11.mono HB10.out.size))
            obtain ⟨N, hN⟩ : ∃ N, (ents D (amongB 1 gs)).length = N := ⟨_, rfl⟩
            have HN := hid hN
            rw [hN]
            clear ho11 hb11 hN
            go_wp2_with fail
            refine (drop_any tb m D 1 _ gs (by have := HLG.out; omega) w11 HT11.out.at_ (HSLH.out w11 HB11)).mono ?_
            rintro e w12 ⟨rfl, ht12, hg12⟩
            obtain ⟨hn12, hb12⟩ := HT11.out.of_set ht12 hg12 (.inl rfl)
            have HT12 := hid hn12
            have HU12 := hid (HU11.out.at_.grown hg12 HAP.out.1 HAP.out.2)
            have HB12 := hid (HB11.out.trans hb12)
            clear ht12 hg12 hn12 hb12
            have hdl := drop_len D (amongB 1 gs)
            obtain ⟨K, hK⟩ : ∃ K, (ents (dropT D (amongB 1 gs)) fun _ => true).length = K := ⟨_, rfl⟩
            rw [hK, HN.out, HM8.out] at hdl
            have HK := hid hK
            have HKN : Hid (K + N = M) := hid hdl
            have hsub : wrap64 ((M : Int) - (N : Int)) = (K : Int) := by
              have := HMM.out
              have := HKN.out
              unfold wrap64
              omega
            have hsub2 : IntKind.i64.wrap ((M : Int) - (N : Int)) = (K : Int) := by rw [IntKind.wrap_i64]; have := HMM.out; have := HKN.out; omega
            clear hK hdl
            go_wp2_with fail
            refine (all_any tb m _ w12 HT12.out.at_).mono ?_
            rintro e w13 ⟨A13, c13, rfl, ho13, hb13⟩
            have HT13 := hid (HT12.out.below hb13)
            have HU13 := hid (HU12.out.below hb13)
            have HB13 := hid (HB12.out.trans (hb13.mono HB12.out.size))
            clear ho13 hb13
            rw [HK.out]
            go_wp2_with fail
            refine (of_any_ tb m _ 1 _ gs (by have := HLG.out; omega) w13 HT13.out.at_ (HSLH.out w13 HB13)).mono ?_
            rintro e w14 ⟨A14, c14, rfl, ho14, hb14⟩
            have HT14 := hid (HT13.out.below hb14)
            have HU14 := hid (HU13.out.below hb14)
            have HB14 := hid (HB13.out.trans (hb14.mono HB13.out.size))
            rw [drop_gone]
            clear ho14 hb14 hsub hsub2
            go_wp2_with fail
            refine (of_any_ tu mu D 2 _ gs (by have := HLG.out; omega) w14 HU14.out (HSLH.out w14 HB14)).mono ?_
            rintro e w15 ⟨A15, c15, rfl, ho15, hb15⟩
            have HT15 := hid (HT14.out.below hb15)
            have HB15 := hid (HB14.out.trans (hb15.mono HB14.out.size))
            have HSE15 := hid (SlE.of_own ho15)
            clear ho15 hb15
            go_wp2_with fail
            refine (of_any_ tb m _ 2 _ gs (by have := HLG.out; omega) w15 HT15.out.at_ (HSLH.out w15 HB15)).mono ?_
            rintro e w16 ⟨A16, c16, rfl, ho16, hb16⟩
            have HB16 := hid (HB15.out.trans (hb16.mono HB15.out.size))
            have HSE16 := hid (SlE.of_own ho16)
            have HSE15b := hid (HSE15.out.up hb16)
            have HEQ := hid (drop_other D (by decide : (2 : Int) ≠ 1) gs gs)
            clear ho16 hb16
            rw [HEQ.out] at HSE16 ⊢
            go_wp2_with fail
            refine (csame_any _ _ (ents D (amongB 2 gs)) (ents D (amongB 2 gs)) true (hid (by simp)) (by have := ents_len D (amongB 2 gs); omega) (by have := ents_len D (amongB 2 gs); omega) w16 HSE15b.out HSE16.out).mono ?_
            rintro e w17 ⟨rfl, hb17⟩
            have HB17 := hid (HB16.out.trans (hb17.mono HB16.out.size))
            clear hb17
            go_wp2_with fail
            go_ret
            exact ⟨rfl, HB17.out⟩

end Go.Proofs.YtfhlpbjdcdagjaaGreatDoor

namespace Go.Proofs.YtfhlpbjdcdagjaaGreatDoor
open Go.RowKit Go.Lib Go.MapKept Go.Sort
set_option linter.unusedVariables false
set_option maxRecDepth 100000

def okR (n k x y : Int) : Bool := nodeB n && (keyB k && rgtB (x, y))

def runE (l : List (Int × Int)) (n k x y : Int) : Int := if okR n k x y = true then (if (chk l).isSome = true then 0 else 9) else 1

def runO (l : List (Int × Int)) (n k x y : Int) (c : C4) : List Rec3 := if okR n k x y = true ∧ (chk l).isSome = true then (runQ l (x, y) c.1 c.2).out.map (fun v => (k, v)) else []

def runC (l : List (Int × Int)) (n k x y : Int) (c : C4) : C4 := if okR n k x y = true ∧ (chk l).isSome = true then (((runQ l (x, y) c.1 c.2).a, (runQ l (x, y) c.1 c.2).b), ((runQ l (x, y) c.1 c.2).c, (runQ l (x, y) c.1 c.2).d)) else c

theorem CRunPost.all {w w' : World} {tb : Nat} {m : Option Nat} {D : CTab} {n k x y : Int} {l : List (Int × Int)} {e : Ending} (h : CRunPost w tb m D n k x y l e w') (ht : TabAt w tb m D) :
    ∃ A c m' B, e = .returned (.tuple #[.slice A (runO l n k x y (D n k)).length c, .int .i64 (runE l n k x y)]) ∧ TabAt w' tb m' (setT D n k (runC l n k x y (D n k))) ∧ w.grownBy w' (some (foot tb m)) ∧
    (m' = m ∨ (m = none ∧ ∃ b, m' = some b ∧ w.heap.size ≤ b)) ∧ w.heap.size ≤ B ∧ tb < B ∧ (∀ b, m' = some b → b < B) ∧ w'.ownsRow B 41 3 (.slice A (runO l n k x y (D n k)).length c) (runO l n k x y (D n k)).length (recCells (runO l n k x y (D n k))) := by
  rcases h with ⟨a, rfl, hb⟩ | ⟨a, b, rfl, hb⟩ | ⟨a, b, A, c, m', B, he, h1, h2, h3, h4, h5, h6, h7⟩
  · have e1 : okR n k x y = false := a
    have e2 : runO l n k x y (D n k) = [] := by unfold runO; rw [e1]; simp
    have e3 : runC l n k x y (D n k) = D n k := by unfold runC; rw [e1]; simp
    have e4 : runE l n k x y = 1 := by unfold runE; rw [e1]; simp
    rw [e2, e3, e4, setT_id]
    exact ⟨none, 0, m, w'.heap.size, rfl, ht.below hb, turned_below hb _, .inl rfl, hb.size, (ht.below hb).lt, (ht.below hb).mlt, World.ownsRow_nil _ _ _ _⟩
  · have e1 : okR n k x y = true := a
    have e2 : runO l n k x y (D n k) = [] := by unfold runO; rw [b]; simp
    have e3 : runC l n k x y (D n k) = D n k := by unfold runC; rw [b]; simp
    have e4 : runE l n k x y = 9 := by unfold runE; rw [e1, b]; simp
    rw [e2, e3, e4, setT_id]
    exact ⟨none, 0, m, w'.heap.size, rfl, ht.below hb, turned_below hb _, .inl rfl, hb.size, (ht.below hb).lt, (ht.below hb).mlt, World.ownsRow_nil _ _ _ _⟩
  · have e1 : okR n k x y = true := a
    have e2 : runO l n k x y (D n k) = (runQ l (x, y) (D n k).1 (D n k).2).out.map (fun v => (k, v)) := by unfold runO; rw [if_pos ⟨e1, b⟩]
    have e3 : runC l n k x y (D n k) = (((runQ l (x, y) (D n k).1 (D n k).2).a, (runQ l (x, y) (D n k).1 (D n k).2).b), ((runQ l (x, y) (D n k).1 (D n k).2).c, (runQ l (x, y) (D n k).1 (D n k).2).d)) := by unfold runC; rw [if_pos ⟨e1, b⟩]
    have e4 : runE l n k x y = 0 := by unfold runE; rw [e1, b]; simp
    rw [e2, e3, e4, List.length_map]
    exact ⟨A, c, m', B, he, h1, h2, h3, h4, h5, h6, h7⟩

theorem runO_len (l : List (Int × Int)) (n k x y : Int) (c : C4) (hc : rgt4 c = true) : (runO l n k x y c).length ≤ 4 := by
  unfold runO
  split
  · rename_i h
    have h1 := h.1
    unfold okR at h1
    simp only [Bool.and_eq_true] at h1
    unfold rgt4 at hc
    rw [Bool.and_eq_true] at hc
    rw [List.length_map]
    exact (run_right h.2 h1.2.2 hc.1 hc.2).1
  · simp

theorem two_comm (l : List (Int × Int)) (D : CTab) (n k x y k' x' y' : Int) (h : k ≠ k') :
    runO l n k x y ((setT D n k' (runC l n k' x' y' (D n k'))) n k) = runO l n k x y (D n k) ∧
    setT (setT D n k (runC l n k x y (D n k))) n k' (runC l n k' x' y' ((setT D n k (runC l n k x y (D n k))) n k')) = setT (setT D n k' (runC l n k' x' y' (D n k'))) n k (runC l n k x y ((setT D n k' (runC l n k' x' y' (D n k'))) n k)) := by
  have e1 : (setT D n k' (runC l n k' x' y' (D n k'))) n k = D n k := setT_other _ _ (fun q => h q.2)
  have e2 : (setT D n k (runC l n k x y (D n k))) n k' = D n k' := setT_other _ _ (fun q => h q.2.symm)
  rw [e1, e2]
  exact ⟨rfl, setT_comm D _ _ (fun q => h q.2.symm)⟩

theorem neq_arr4 (a b c d : Int) (w : World) : (binOp .neq 32 (.agg #[.int .i64 a, .int .i64 b, .int .i64 c, .int .i64 d]) (.agg #[.int .i64 a, .int .i64 b, .int .i64 c, .int .i64 d])).run Tryz.prog w = .ok (.bool false) w := by
  rw [run_neq_struct, eqin_arr4 9997 a b c d a b c d w]
  simp [Result.andThen]

set_option maxHeartbeats 1000000 in
theorem get_grown (tb : Nat) (m : Option Nat) (D : CTab) (n k a b c d : Int) (hn : I64 n) (hk : I64 k) (hD : D n k = ((a, b), (c, d))) (w : World) (h : TabAt w tb m D) :
    Calls Tryz.prog 22 #[tabV tb, .int .i64 n, .int .i64 k] w fun e w' => e = .returned (.agg #[.int .i64 a, .int .i64 b, .int .i64 c, .int .i64 d]) ∧ ∃ q os', w' = grow (w.drewN q) os' := by
  have hc := (h.alloc (.cells #[.int .i64 0, .int .i64 0, .int .i64 0, .int .i64 0] 32)).cell
  have hlk := (h.alloc (.cells #[.int .i64 0, .int .i64 0, .int .i64 0, .int .i64 0] 32)).look (n := n) (k := k) ⟨wf_i64 hn, wf_i64 hk⟩
  rw [hD] at hlk
  replace hlk : (Instr.lookup 70 (.map m) (.agg #[.int .i64 n, .int .i64 k]) false).run Tryz.prog (w.alloc (.cells #[.int .i64 0, .int .i64 0, .int .i64 0, .int .i64 0] 32)) = .ok (.agg #[.int .i64 a, .int .i64 b, .int .i64 c, .int .i64 d]) (w.alloc (.cells #[.int .i64 0, .int .i64 0, .int .i64 0, .int .i64 0] 32)) := hlk
  clear hD hn hk h
  go_enter Tryz.func22, Tryz.ntmps22
  go_wp2_with fail
  refine bodyPost_ret (v := .agg #[.int .i64 a, .int .i64 b, .int .i64 c, .int .i64 d]) (by simp [results, Tryz.results22, go_sem]) rfl ⟨rfl, 0, #[.cells #[.int .i64 a, .int .i64 b, .int .i64 c, .int .i64 d] 32], ?_⟩
  exact alloc_eq_grow _ _

end Go.Proofs.YtfhlpbjdcdagjaaGreatDoor

namespace Go.Proofs.YtfhlpbjdcdagjaaGreatDoor
open Go.RowKit
set_option linter.unusedVariables false
set_option maxRecDepth 100000

section
variable {P : Program} {ops : Array Oper} {Q : Exit → Act → World → Prop}

/-- The operation is left out: its guard's slot doesn't hold what it waits for. -/
def GuardOut (ops : Array Oper) (T : Nat → Value → World → Prop) (o : Oper) : Prop :=
  ∃ g b d, o.guard = some (g, b) ∧ (ops[g]?).bind (·.dst) = some d ∧ ∀ u w, T d u w → u ≠ .bool b

theorem guard_out {T : Nat → Value → World → Prop} {o : Oper} {g : Nat} {b : Bool} {d : Tmp} (h : o.guard = some (g, b)) (hd : (ops[g]?).bind (·.dst) = some d) (ht : ∀ u w, T d u w → u ≠ .bool b) : GuardOut ops T o := ⟨g, b, d, h, hd, ht⟩

theorem not_wanted {T : Nat → Value → World → Prop} {o : Oper} (h : GuardOut ops T o) {a : Act} {w : World}
    (hd : ∀ k, k ∈ (match o.guard with | some (g, _) => ((ops[g]?).bind (·.dst)).toList | none => []) → T k (a.tmps.getD k undef) w) : Region.wanted o (yielded ops a.tmps) = false := by
  obtain ⟨g, b, d, hg, h1, h2⟩ := h
  have h3 := h2 _ _ (hd d (by rw [hg]; simp [h1]))
  have h5 : yielded ops a.tmps g ≠ some b := by
    intro hy
    apply h3
    unfold yielded at hy
    rw [h1] at hy
    rw [Array.getD_eq_getD_getElem?]
    cases ht : a.tmps[d]? with
    | none => simp [ht] at hy
    | some u =>
      simp only [Option.bind_some, ht] at hy
      cases u <;> simp at hy ⊢
      exact hy
  unfold Region.wanted
  rw [hg]
  simpa using h5

def StepU (P : Program) (ops : Array Oper) (Q : Exit → Act → World → Prop) (T : Nat → Value → World → Prop) (G : World → Prop) (o : Oper) : Prop :=
  (GuardIs ops T o true ∧ ∀ (K : Act → World → Prop) (a : Act) (w : World), (∀ v w', (∀ d, o.dst = some d → T d v w') → G w' → Below w.heap.size w w' → K (a.put o.dst v) w') → G w → OpAll T a w o.op.operands.toList → Oper.wp P o a w K Q) ∨
  (GuardOut ops T o ∧ ∀ w, G w → ∀ d, o.dst = some d → T d undef w)

def StepsU (P : Program) (ops : Array Oper) (Q : Exit → Act → World → Prop) (T : Nat → Value → World → Prop) (G : World → Prop) : List Oper → Prop
  | [] => True
  | o :: r => StepU P ops Q T G o ∧ StepsU P ops Q T G r

theorem StepsU.mem {T : Nat → Value → World → Prop} {G : World → Prop} : ∀ {l : List Oper}, StepsU P ops Q T G l → ∀ o ∈ l, StepU P ops Q T G o
  | [], _, _, h => by cases h
  | x :: l, hh, o, h => by
    rcases List.mem_cons.1 h with rfl | h
    · exact hh.1
    · exact hh.2.mem o h
theorem StepsU.append {T : Nat → Value → World → Prop} {G : World → Prop} : ∀ {l m : List Oper}, StepsU P ops Q T G l → StepsU P ops Q T G m → StepsU P ops Q T G (l.append m)
  | [], _, _, h => h
  | x :: l, m, hh, h => ⟨hh.1, StepsU.append hh.2 h⟩
theorem StepsU.nil {T : Nat → Value → World → Prop} {G : World → Prop} : StepsU P ops Q T G [] := trivial
theorem StepsU.cons {T : Nat → Value → World → Prop} {G : World → Prop} {o : Oper} {l : List Oper} (h : StepU P ops Q T G o) (hh : StepsU P ops Q T G l) : StepsU P ops Q T G (o :: l) := ⟨h, hh⟩

theorem region_und {T : Nat → Value → World → Prop} {G : World → Prop} {bs : List Nat} {id : Nat} {a0 : Act} {w0 : World} (n : Nat) (hm : P.follows .mixedOrders = true) (hn : a0.tmps.size = n) (hok : regOk ops bs n = true)
    (hT : ∀ k u w w', T k u w → Below w.heap.size w w' → T k u w') (hG : G w0.drew) (hbase : ∀ k ∈ bs, T k (a0.tmps.getD k undef) w0.drew)
    (hs : StepsU P ops Q T G ops.toList)
    (hdone : ∀ a w, a.defers = a0.defers → a.tmps.size = n → G w → (∀ k ∈ bs, (∀ (j : Nat) (o : Oper), ops[j]? = some o → o.dst ≠ some k) → T k (a.tmps.getD k undef) w) → (∀ k, (ops.any fun o => o.dst == some k) = true → T k (a.tmps.getD k undef) w) → Q .normal a w) :
    (Code.region id ops true).wp P Q a0 w0 := by
  refine wp_region_any hm ?_
  show wpAny P .any ops Q ops.size (Array.replicate ops.size false) a0 w0.drew
  refine wpAny_inv hok (RInv ops T G bs a0) (fun _ _ _ h => h.size) ?_ ?_ _ _ _ _ ?_ ⟨by simp, hG, rfl, rfl, fun k hk _ => hbase k hk, ?_⟩
  · intro listed a w i hI hi
    obtain ⟨o, ho, hl, hdep⟩ := ready_of hi
    obtain ⟨hback, hdst, hlook⟩ := regOk_at hok ho
    have hin : i < ops.size := (Array.getElem?_eq_some_iff.1 ho).1
    have hlooks : ∀ k ∈ o.looksAt ops, T k (a.tmps.getD k undef) w := by
      intro k hk
      rcases hlook k hk with ⟨h1, h2⟩ | ⟨j, oj, hj, hd, e, he, hb, rfl⟩
      · exact hI.keep k h1 h2
      · exact hI.val _ oj k hj (hdep e he hb) hd
    -- what one operation leaves
    have after : ∀ v w', (∀ d, o.dst = some d → T d v w') → G w' → Below w.heap.size w w' → RInv ops T G bs a0 (listed.setIfInBounds i true) (a.put o.dst v) w' := by
      intro v w' hv hg hb
      refine ⟨by simpa using hI.size, hg, ?_, ?_, ?_, ?_⟩
      · rw [← hI.defers]; cases o.dst <;> rfl
      · rw [← hI.tsize]; cases o.dst <;> simp [Act.put]
      · intro k hk hw
        rw [getD_put_ne (hw i o ho)]
        exact hT _ _ _ _ (hI.keep k hk hw) hb
      · intro j oj k hj hlj hd
        by_cases hij : i = j
        · subst hij
          rw [ho] at hj
          injection hj with hj
          subst hj
          have hlt := (hdst k hd).1
          rw [hd, getD_put_self (by rw [hI.tsize, hn]; exact hlt)]
          exact hv k hd
        · have hlj' : listed.getD j false = true := by
            rw [Array.getD_eq_getD_getElem?, Array.getElem?_setIfInBounds_ne hij] at hlj
            rw [Array.getD_eq_getD_getElem?]; exact hlj
          have hne : o.dst ≠ some k := by
            intro e
            rcases Nat.lt_or_gt_of_ne hij with h1 | h1
            · exact ((regOk_at hok hj).2.1 k hd).2 i o h1 ho e
            · exact (hdst k e).2 j oj h1 hj hd
          rw [getD_put_ne hne]
          exact hT _ _ _ _ (hI.val j oj k hj hlj' hd) hb
    have hstep := hs.mem o (Array.mem_toList_iff.2 (Array.mem_of_getElem? ho))
    unfold wpOp
    simp only [ho]
    have hguard : ∀ k, k ∈ (match o.guard with | some (g, _) => ((ops[g]?).bind (·.dst)).toList | none => []) → T k (a.tmps.getD k undef) w := fun k hk => hlooks k (List.mem_append_right _ hk)
    rcases hstep with ⟨h1, h2⟩ | ⟨h1, h2⟩
    · rw [wanted_is h1 hguard, if_pos rfl]
      refine .inl (h2 _ a w after hI.good (opAll_of fun k hk => hlooks k (List.mem_append_left _ (List.mem_filterMap.2 ⟨.tmp k, hk, rfl⟩))))
    · rw [not_wanted h1 hguard, if_neg (by decide)]
      exact after _ _ (h2 w hI.good) hI.good (Below.refl _ _)
  · intro listed a w hI hall
    refine hdone a w hI.defers (by rw [hI.tsize, hn]) hI.good hI.keep (fun k hk => ?_)
    obtain ⟨o, ho, hd⟩ := Array.any_eq_true'.1 hk
    obtain ⟨j, hj⟩ := Array.getElem?_of_mem ho
    exact hI.val j o k hj (hall j (Array.getElem?_eq_some_iff.1 hj).1) (by simpa using hd)
  · simp
  · intro j o k hj hl
    rw [Array.getD_eq_getD_getElem?] at hl
    by_cases h : j < ops.size
    · simp [h] at hl
    · simp [h] at hl

end

end Go.Proofs.YtfhlpbjdcdagjaaGreatDoor
