/- Layer 7, cell: CellGroups. -/
import Derived.Test.YtfhlpbjdcdagjaaGreatDoorGar
import Derived.Test.YtfhlpbjdcdagjaaGreatDoorGan
import Derived.Lib.SmallJoins
import Derived.Deep.SlicePairs
import Derived.ProofKit
import Derived.OpenShut
import Derived.Test.YtfhlpbjdcdagjaaGreatDoorRows
import Derived.Test.YtfhlpbjdcdagjaaGreatDoorGap
import Derived.Lib.LaidTab
import Derived.Stop.LaidErr
import Derived.Shelf.Vars
import Derived.Test.YtfhlpbjdcdagjaaGreatDoorGaa
import Derived.Deep.Slices
namespace Go.Proofs.YtfhlpbjdcdagjaaGreatDoor
open Go.RowKit Go.Lib Go.MapKept
set_option linter.unusedVariables false
set_option maxRecDepth 100000

/-- Entries that came in. -/
structure SeIn (w : World) (v : Value) (l : List Ent) : Prop where
  row : SlE w w.heap.size v l
  fits : ∀ j, j < l.length → entI (l.getD j e0)

theorem entB_I {x : Ent} (h : entB x = true) : entI x := by
  obtain ⟨n, k, a, b, c, d, rfl⟩ := ent_of (x := x)
  unfold entB setB nodeB keyB at h
  simp only [Bool.and_eq_true, decide_eq_true_eq] at h
  refine ⟨⟨⟨?_, ?_⟩, ⟨?_, ?_⟩⟩, rgt4_wf h.2⟩
  all_goals simp only
  all_goals omega

theorem ents_fit {D : CTab} (h : OkT D) (S : Int × Int → Bool) : ∀ j, j < (ents D S).length → entI ((ents D S).getD j e0) := by
  intro j hj
  have := List.all_eq_true.1 (ents_all h S) _ (List.getElem_mem hj)
  rw [List.getD_eq_getElem?_getD, List.getElem?_eq_getElem hj]
  exact entB_I this

set_option maxHeartbeats 4000000 in
theorem law_groups (v : Value) (l : List Ent) (vs : Value) (gs : List Int) (w : World) (hv : SeIn w v l) (hs : SlI w w.heap.size .i64 vs gs) (he : Env4 w) :
    Calls Tryz.prog 5 #[v, vs] w fun e w' => e = .returned (.bool true) ∧ Below w.heap.size w w' := by
  have HE := hid he; have HS := hid hs; have HV := hid hv.row; have HI := hid hv.fits
  clear he
  obtain ⟨⟨A0, c0, rfl, _, _⟩, _⟩ := hv
  obtain ⟨A1, c1, rfl, _, _⟩ := hs
  go_enter Tryz.func5, Tryz.ntmps5
  go_wp2_with fail
  refine (awake7 w HE.out).mono ?_
  rintro e w1 ⟨rfl, hb⟩
  have HB1 := hid hb
  clear hb
  by_cases hlen : 100 < l.length
  · have hlen' : (100 : Int) < (l.length : Int) := by omega
    go_wp2_with fail
    go_ret
    exact ⟨rfl, HB1.out⟩
  · have hlen' : ¬ (100 : Int) < (l.length : Int) := by omega
    by_cases hlg : 20 < gs.length
    · have hlg' : (20 : Int) < (gs.length : Int) := by omega
      go_wp2_with fail
      go_ret
      exact ⟨rfl, HB1.out⟩
    · have hlg' : ¬ (20 : Int) < (gs.length : Int) := by omega
      have HLG : Hid (l.length ≤ 100 ∧ gs.length ≤ 20) := hid ⟨by omega, by omega⟩
      go_wp2_with fail
      refine (cnew_any _ l (by omega) HI.out w1 ((HV.out.below HB1.out).mono HB1.out.size)).mono ?_
      rintro e w2 ⟨⟨hn, rfl⟩ | ⟨hn, tb, m, rfl, ht⟩, hb⟩
      · have HB2 := hid (HB1.out.trans (hb.mono HB1.out.size))
        clear hb
        go_wp2_with fail
        go_ret
        exact ⟨rfl, HB2.out⟩
      · have HB2 := hid (HB1.out.trans (hb.mono HB1.out.size))
        have HT2 := hid (ht.mono HB1.out.size)
        obtain ⟨D, hD⟩ : ∃ D, setsT noTab l = D := ⟨_, rfl⟩
        rw [hD] at HT2
        clear hb ht hn hD
        go_wp2_with fail
        go_loopw [7, 8] (fun vm vn wr => ∃ (n M : Nat), n ≤ 8 ∧ vm = .int .i64 M ∧ vn = .int .i64 n ∧ M ≤ 512 ∧ Hid ((ents D fun p => decide (nodeGroup p < (n * 8 : Nat))).length = M) ∧ Hid (Below w2.heap.size w2 wr)) (fun _ vn _ => 8 - (RowKit.intOf vn).toNat)
        case atStart => exact ⟨0, 0, by omega, rfl, rfl, by omega, hid (by rw [Nat.zero_mul, group_none]; rfl), hid (Below.refl _ _)⟩
        case round =>
          obtain ⟨n, M, hn8, rfl, rfl, hM, HM, HBr⟩ := hrel
          by_cases hn : n < 8
          · obtain ⟨wo, rfl⟩ : ∃ wo : World, wo = wr := ⟨_, rfl⟩
            have hni : ((n : Int) < 8) := by omega
            go_wp2_with fail
            go_loopw [7, 9] (fun vm vg wr => ∃ (g M : Nat), g ≤ 8 ∧ vm = .int .i64 M ∧ vg = .int .i64 g ∧ M ≤ 512 ∧ Hid ((ents D fun p => decide (nodeGroup p < (n * 8 + g : Nat))).length = M) ∧ Hid (Below w2.heap.size w2 wr)) (fun _ vg _ => 8 - (RowKit.intOf vg).toNat)
            case atStart => exact ⟨0, M, by omega, rfl, rfl, hM, by simpa using HM, HBr⟩
            case round =>
              obtain ⟨g, M2, hg8, rfl, rfl, hM2, HM2, HBr2⟩ := hrel
              by_cases hg : g < 8
              · have hgi : ((g : Int) < 8) := by omega
                have HSL : Hid (SlI (wr.alloc (.cells #[.int .i64 (g : Int)] 3)) (wr.alloc (.cells #[.int .i64 (g : Int)] 3)).heap.size .i64 (.slice (some ⟨wr.heap.size, 0, none⟩) 1 1) [(g : Int)]) := hid (by
                  have := SlI.new wr .i64 [(g : Int)] 3
                  rw [World.size_alloc]
                  exact this)
                have HB3 := hid (HBr2.out.trans (((Below.refl wr.heap.size wr).alloc (Nat.le_refl _) (.cells #[.int .i64 (g : Int)] 3)).mono HBr2.out.size))
                go_wp2_with fail
                refine (of_any_ tb m D (n : Int) _ [(g : Int)] (by simp) _ (HT2.out.at_.below HB3.out) HSL.out).mono ?_
                rintro e w4 ⟨A4, c4, rfl, ho4, hb4⟩
                have hst := group_step D n g hn hg
                obtain ⟨N, hN⟩ : ∃ N, (ents D (amongB (n : Int) [(g : Int)])).length = N := ⟨_, rfl⟩
                rw [hN, HM2.out] at hst
                have hcap := ents_len D fun p => decide (nodeGroup p < (n * 8 + g + 1 : Nat))
                have hMN : M2 + N ≤ 512 := by omega
                have HST : Hid ((ents D fun p => decide (nodeGroup p < (n * 8 + (g + 1) : Nat))).length = M2 + N) := hid (by rw [show n * 8 + (g + 1) = n * 8 + g + 1 by omega]; exact hst.symm)
                have HB4 := hid (HB3.out.trans (hb4.mono HB3.out.size))
                rw [hN]
                clear ho4 hb4 hst hN hcap
                go_wp2_with fail
                go_roundw
                case rel => exact ⟨g + 1, M2 + N, by omega, by go_num, by go_num, hMN, HST, HB4⟩
                case measure => simp [RowKit.intOf]; omega
              · have hge : g = 8 := by omega
                subst hge
                go_wp2_with fail
                go_roundw
                case rel => exact ⟨n + 1, M2, by omega, rfl, by go_num, hM2, hid (by rw [show (n + 1) * 8 = n * 8 + 8 by omega]; exact HM2.out), HBr2⟩
                case measure => simp [RowKit.intOf]; omega
          · have hne : n = 8 := by omega
            subst hne
            have HM8 : Hid ((ents D fun _ => true).length = M) := hid (by rw [← group_all D]; exact HM.out)
            have HT3 := hid (HT2.out.below HBr.out)
            have HB3 := hid (HB2.out.trans (HBr.out.mono HB2.out.size))
            have HMM : Hid (M ≤ 512) := hid hM
            clear hM
            go_wp2_with fail
            refine (all_any tb m D wr HT3.out.at_).mono ?_
            rintro e w4 ⟨A4, c4, rfl, ho4, hb4⟩
            have HT4 := hid (HT3.out.below hb4)
            have HB4 := hid (HB3.out.trans (hb4.mono HB3.out.size))
            have HSE := hid (SlE.of_own ho4)
            clear ho4 hb4
            rw [HM8.out] at HSE ⊢
            go_wp2_with fail
            refine (cnew_any _ (ents D fun _ => true) (by have := ents_len D fun _ => true; omega) (ents_fit HT4.out.at_.ok _) w4 (by simpa only [HM8.out] using HSE.out)).mono ?_
            rintro e w5 ⟨⟨hn, rfl⟩ | ⟨hn, tu, mu, rfl, hu⟩, hb⟩
            · rw [ents_all HT4.out.at_.ok] at hn; cases hn
            rw [sets_ents HT4.out.at_.ok] at hu
            have HU5 := hid hu
            have HT5 := hid (HT4.out.below hb)
            have HB5 := hid (HB4.out.trans (hb.mono HB4.out.size))
            have HAP : Hid (foot tb m ≠ tu ∧ mu ≠ some (foot tb m)) := hid (by
              have h1 : foot tb m < w4.heap.size := by
                cases m with
                | none => exact HT4.out.at_.lt
                | some b => exact HT4.out.at_.mlt b rfl
              refine ⟨fun e => ?_, fun e => ?_⟩
              · have := HU5.out.le; omega
              · have := HU5.out.mle _ e; omega)
            clear hn hu hb HSE
            go_wp2_with fail
            refine (all_any tb m D w5 HT5.out.at_).mono ?_
            rintro e w6 ⟨A6, c6, rfl, ho6, hb6⟩
            have HT6 := hid (HT5.out.below hb6)
            have HU6 := hid (HU5.out.below hb6)
            have HB6 := hid (HB5.out.trans (hb6.mono HB5.out.size))
            clear ho6 hb6
            rw [HM8.out]
            go_wp2_with fail
            refine (all_any tu mu D w6 HU6.out.at_).mono ?_
            rintro e w7 ⟨A7, c7, rfl, ho7, hb7⟩
            have HT7 := hid (HT6.out.below hb7)
            have HU7 := hid (HU6.out.below hb7)
            have HB7 := hid (HB6.out.trans (hb7.mono HB6.out.size))
            have HSE7 := hid (SlE.of_own ho7)
            clear ho7 hb7
            go_wp2_with fail
            refine (all_any tb m D w7 HT7.out.at_).mono ?_
            rintro e w8 ⟨A8, c8, rfl, ho8, hb8⟩
            have HT8 := hid (HT7.out.below hb8)
            have HU8 := hid (HU7.out.below hb8)
            have HB8 := hid (HB7.out.trans (hb8.mono HB7.out.size))
            have HSE8 := hid (SlE.of_own ho8)
            have HSE78 := hid (HSE7.out.up hb8)
            clear ho8 hb8
            go_wp2_with fail
            refine (csame_any _ _ (ents D fun _ => true) (ents D fun _ => true) true (hid (by simp)) (by have := ents_len D fun _ => true; omega) (by have := ents_len D fun _ => true; omega) w8 HSE78.out HSE8.out).mono ?_
            rintro e w9 ⟨rfl, hb9⟩
            have HT9 := hid (HT8.out.below hb9)
            have HU9 := hid (HU8.out.below hb9)
            have HB9 := hid (HB8.out.trans (hb9.mono HB8.out.size))
            clear hb9 HSE7 HSE8 HSE78
            have HSL := fun (W : World) (hb : Hid (Below w.heap.size w W)) => ((HS.out.below hb.out).mono hb.out.size)
            have HSLH := hid HSL
            clear HSL
            go_wp2_with fail
            refine (all_any tb m D w9 HT9.out.at_).mono ?_
            rintro e w10 ⟨A10, c10, rfl, ho10, hb10⟩
            have HT10 := hid (HT9.out.below hb10)
            have HU10 := hid (HU9.out.below hb10)
            have HB10 := hid (HB9.out.trans (hb10.mono HB9.out.size))
            clear ho10 hb10
            rw [HM8.out]
            go_wp2_with fail
            refine (of_any_ tb m D 1 _ gs (by have := HLG.out; omega) w10 HT10.out.at_ (HSLH.out w10 HB10)).mono ?_
            rintro e w11 ⟨A11, c11, rfl, ho11, hb11⟩
            have HT11 := hid (HT10.out.below hb11)
            have HU11 := hid (HU10.out.below hb11)
            have HB11 := hid (HB10.out.trans (hb11.mono HB10.out.size))
            obtain ⟨N, hN⟩ : ∃ N, (ents D (amongB 1 gs)).length = N := ⟨_, rfl⟩
            have HN := hid hN
            rw [hN]
            clear ho11 hb11 hN
            go_wp2_with fail
            refine (drop_any tb m D 1 _ gs (by have := HLG.out; omega) w11 HT11.out.at_ (HSLH.out w11 HB11)).mono ?_
            rintro e w12 ⟨rfl, ht12, hg12⟩
            obtain ⟨hn12, hb12⟩ := HT11.out.of_set ht12 hg12 (.inl rfl)
            have HT12 := hid hn12
            have HU12 := hid (HU11.out.at_.grown hg12 HAP.out.1 HAP.out.2)
            have HB12 := hid (HB11.out.trans hb12)
            clear ht12 hg12 hn12 hb12
            have hdl := drop_len D (amongB 1 gs)
            obtain ⟨K, hK⟩ : ∃ K, (ents (dropT D (amongB 1 gs)) fun _ => true).length = K := ⟨_, rfl⟩
            rw [hK, HN.out, HM8.out] at hdl
            have HK := hid hK
            have HKN : Hid (K + N = M) := hid hdl
            have hsub : wrap64 ((M : Int) - (N : Int)) = (K : Int) := by
              have := HMM.out
              have := HKN.out
              unfold wrap64
              omega
            have hsub2 : IntKind.i64.wrap ((M : Int) - (N : Int)) = (K : Int) := by rw [IntKind.wrap_i64]; have := HMM.out; have := HKN.out; omega
            clear hK hdl
            go_wp2_with fail
            refine (all_any tb m _ w12 HT12.out.at_).mono ?_
            rintro e w13 ⟨A13, c13, rfl, ho13, hb13⟩
            have HT13 := hid (HT12.out.below hb13)
            have HU13 := hid (HU12.out.below hb13)
            have HB13 := hid (HB12.out.trans (hb13.mono HB12.out.size))
            clear ho13 hb13
            rw [HK.out]
            go_wp2_with fail
            refine (of_any_ tb m _ 1 _ gs (by have := HLG.out; omega) w13 HT13.out.at_ (HSLH.out w13 HB13)).mono ?_
            rintro e w14 ⟨A14, c14, rfl, ho14, hb14⟩
            have HT14 := hid (HT13.out.below hb14)
            have HU14 := hid (HU13.out.below hb14)
            have HB14 := hid (HB13.out.trans (hb14.mono HB13.out.size))
            rw [drop_gone]
            clear ho14 hb14 hsub hsub2
            go_wp2_with fail
            refine (of_any_ tu mu D 2 _ gs (by have := HLG.out; omega) w14 HU14.out (HSLH.out w14 HB14)).mono ?_
            rintro e w15 ⟨A15, c15, rfl, ho15, hb15⟩
            have HT15 := hid (HT14.out.below hb15)
            have HB15 := hid (HB14.out.trans (hb15.mono HB14.out.size))
            have HSE15 := hid (SlE.of_own ho15)
            clear ho15 hb15
            go_wp2_with fail
            refine (of_any_ tb m _ 2 _ gs (by have := HLG.out; omega) w15 HT15.out.at_ (HSLH.out w15 HB15)).mono ?_
            rintro e w16 ⟨A16, c16, rfl, ho16, hb16⟩
            have HB16 := hid (HB15.out.trans (hb16.mono HB15.out.size))
            have HSE16 := hid (SlE.of_own ho16)
            have HSE15b := hid (HSE15.out.up hb16)
            have HEQ := hid (drop_other D (by decide : (2 : Int) ≠ 1) gs gs)
            clear ho16 hb16
            rw [HEQ.out] at HSE16 ⊢
            go_wp2_with fail
            refine (csame_any _ _ (ents D (amongB 2 gs)) (ents D (amongB 2 gs)) true (hid (by simp)) (by have := ents_len D (amongB 2 gs); omega) (by have := ents_len D (amongB 2 gs); omega) w16 HSE15b.out HSE16.out).mono ?_
            rintro e w17 ⟨rfl, hb17⟩
            have HB17 := hid (HB16.out.trans (hb17.mono HB16.out.size))
            clear hb17
            go_wp2_with fail
            go_ret
            exact ⟨rfl, HB17.out⟩

end Go.Proofs.YtfhlpbjdcdagjaaGreatDoor

namespace Go.Proofs.YtfhlpbjdcdagjaaGreatDoor
open Go.RowKit Go.Joins Go.ChangeShapes Go.WideShapes
set_option linter.unusedVariables false
set_option maxRecDepth 100000

theorem under_ins : Tryz.prog.underlying 88 = some (.struct #[{ name := "Op", type := 3, offset := 0, embedded := false, tag := "", pkgPath := "", byteOffset := 0 }, { name := "A", type := 3, offset := 1, embedded := false, tag := "", pkgPath := "", byteOffset := 8 }]) := by kernel_rfl

theorem cells_ins : Tryz.prog.cellsOf 88 = 2 := by kernel_rfl

def numOfI : Value → Int
  | .int _ n => n
  | _ => 0

section
variable {H : Type} {enc : TypeId × Value → H} {w : World} {base : Nat} {spare : Nat → Bool} {held : Bool}

theorem open_ins {fuel : Nat} {a : Option Addr} {len cap : Nat} {x : DataW H × List MemPlace} (h : DataW.trod enc Tryz.prog w base spare held fuel 39 [.slice a len cap] = some x) :
    ∃ l, SnIn w (.slice a len cap) l := by
  rcases Go.Deep.open_slice_pairs Tryz.underlying39 under_ins cells_ins rfl rfl (by kernel_rfl) (by kernel_rfl) h with ⟨hcs, _⟩ | ⟨p, len', cap', m, n, V0, V1, D0, D1, P0, P1, hcs, _, hl, hm, hmm, _, hx⟩
  · simp at hcs
    obtain ⟨rfl, rfl, rfl⟩ := hcs
    exact ⟨[], ⟨⟨⟨_, _, rfl, Nat.le_refl _, fun h => absurd h (by simp)⟩, fun j hj => absurd hj (by simp), by simp⟩, fun n c e => (by injection e with _ e1 e2; exact ⟨e1.symm, e2.symm⟩)⟩⟩
  · simp at hcs
    obtain ⟨rfl, rfl, rfl⟩ := hcs
    have hlm : len ≤ m := by rw [hmm]; split <;> omega
    have each : ∀ i, i < len → ∃ n0 n1, V0 i = .int .i64 n0 ∧ V1 i = .int .i64 n1 ∧ I64 n0 ∧ I64 n1 := by
      intro i hi
      obtain ⟨_, _, t0, t1⟩ := hx i (by omega)
      obtain ⟨n0, e0, _, w0⟩ := DataW.trod_int Tryz.underlying3 t0
      obtain ⟨n1, e1, _, w1⟩ := DataW.trod_int Tryz.underlying3 t1
      exact ⟨n0, n1, by simpa using e0, by simpa using e1, i64_of w0, i64_of w1⟩
    obtain ⟨b, off, spot⟩ := p
    have hget : ∀ j, j < len → (((List.range len).map fun i => (numOfI (V0 i), numOfI (V1 i))).getD j (0, 0)) = (numOfI (V0 j), numOfI (V1 j)) := by
      intro j hj
      rw [List.getD_eq_getElem?_getD, List.getElem?_map, List.getElem?_range hj]
      rfl
    refine ⟨(List.range len).map fun i => (numOfI (V0 i), numOfI (V1 i)), ⟨⟨?_, ?_, by simp; omega⟩, fun n c e => (by injection e with e1; cases e1)⟩⟩
    · refine ⟨some ⟨b, off, spot⟩, cap, by simp, by simpa using hl, fun hp => ?_⟩
      have hp' : 0 < len := by simpa using hp
      have h0 := (hx 0 (by omega)).1
      have hspot : spot = none := by simpa [Addr.add] using World.cell?_spot h0
      subst hspot
      refine ⟨b, off, rfl, ?_, fun j hj => ?_⟩
      · exact World.block_lt_of_cell? w ⟨b, off, none⟩ (by simpa [Addr.add] using h0)
      · have hj' : j < len := by simpa using hj
        obtain ⟨c0, c1, _, _⟩ := hx j (by omega)
        obtain ⟨n0, n1, e0, e1, _, _⟩ := each j hj'
        rw [addr_add] at c0 c1
        rw [hget j hj', e0, e1]
        rw [e0] at c0
        rw [e1] at c1
        exact ⟨c0, by rw [Nat.add_assoc]; exact c1⟩
    · intro j hj
      have hj' : j < len := by simpa using hj
      obtain ⟨n0, n1, e0, e1, i0, i1⟩ := each j hj'
      rw [hget j hj', e0, e1]
      exact ⟨i0, i1⟩

theorem open_in1 {r : Reach} {b0 : Nat} {v : Value} {d : DataW H} {p : List MemPlace} (hv : Value.okWide Tryz.prog w r b0 88 v) (h : DataW.Trod enc Tryz.prog w base spare held 88 v d p) :
    ∃ m n, v = .agg #[.int .i64 m, .int .i64 n] ∧ d = .agg [.lit (.int .i64 m), .lit (.int .i64 n)] ∧ p = [] ∧ (Lit.int .i64 m).wf = true ∧ (Lit.int .i64 n).wf = true := by
  obtain ⟨v0, v1, y0, y1, k, rfl, rfl, rfl, h0, h1⟩ := open_agg2 under_ins (by kernel_rfl) cells_ins hv h
  obtain ⟨m, hm, rfl, wm⟩ := DataW.trod_int Tryz.underlying3 h0
  obtain ⟨n, hn, rfl, wn⟩ := DataW.trod_int Tryz.underlying3 h1
  obtain rfl : v0 = .int .i64 m := by simpa using hm
  obtain rfl : v1 = .int .i64 n := by simpa using hn
  exact ⟨m, n, rfl, rfl, rfl, wm, wn⟩

theorem shut_in1 {m n : Int} (hm : (Lit.int .i64 m).wf = true) (hn : (Lit.int .i64 n).wf = true) : DataW.Trod enc Tryz.prog w base spare held 88 (.agg #[.int .i64 m, .int .i64 n]) (.agg [.lit (.int .i64 m), .lit (.int .i64 n)]) [] :=
  shut_agg2 (y0 := (.lit (.int .i64 m), [])) (y1 := (.lit (.int .i64 n), [])) under_ins (by kernel_rfl) cells_ins ⟨1, trod_int_mk 0 Tryz.underlying3 hm⟩ ⟨1, trod_int_mk 0 Tryz.underlying3 hn⟩

end

end Go.Proofs.YtfhlpbjdcdagjaaGreatDoor

namespace Go.Proofs.YtfhlpbjdcdagjaaGreatDoor
open Go.RowKit Go.Joins Go.ChangeShapes Go.WideShapes
set_option linter.unusedVariables false
set_option maxRecDepth 100000

/-- An array of strings that reads as these texts holds them, cell for cell. -/
theorem cells_of_strs {H : Type} {enc : TypeId × Value → H} {P : Program} {w : World} {base : Nat} {sp : Nat → Bool} {held : Bool} {fuel : Nat} {t e : TypeId} {n : Nat} {cs : List Value} {zs : List (List UInt8)} {p : List MemPlace}
    (ht : P.underlying t = some (.array n e)) (he : P.underlying e = some .string) (hce : P.cellsOf e = 1) (hct : P.cellsOf t = n)
    (h : DataW.trod enc P w base sp held fuel t cs = some (.agg (zs.map fun z => .lit (.string z)), p)) : cs = zs.map fun z => Value.string ⟨z.toArray⟩ := by
  cases fuel with
  | zero => simp [DataW.trod] at h
  | succ fuel =>
    simp only [DataW.trod, ht, hce, hct, Nat.mul_one] at h
    split at h
    · rename_i hl
      obtain ⟨xs, hm, hx⟩ := Option.map_eq_some_iff.1 h
      have hxs : xs.map (·.1) = zs.map fun z => (DataW.lit (.string z) : DataW H) := by
        have := congrArg Prod.fst hx
        simpa using this
      have hxl : xs.length = n := by simpa using Lib.mapM_length hm
      have hzl : zs.length = n := by
        have := congrArg List.length hxs
        simp at this
        omega
      apply List.ext_getElem?
      intro i
      by_cases hi : i < n
      · obtain ⟨b, hb, hf⟩ := Lib.mapM_at hm i i (by simp [hi])
        obtain ⟨s, hc, rfl, _⟩ := DataW.trod_string he hf
        have h1 : cs[i]? = some (.string s) := by
          have := congrArg (·[0]?) hc
          simpa [List.getElem?_take, List.getElem?_drop] using this
        have h2 : (xs.map (·.1))[i]? = some (DataW.lit (.string s.data.toList) : DataW H) := by simp [hb]
        rw [hxs] at h2
        simp only [List.getElem?_map, Option.map_eq_some_iff, DataW.lit.injEq, Lit.string.injEq] at h2
        obtain ⟨z', hz', e2⟩ := h2
        rw [h1, List.getElem?_map, hz', Option.map_some, e2, mk_data]
      · rw [List.getElem?_eq_none (by omega), List.getElem?_eq_none (by simp; omega)]
    · cases h

theorem gPowType4 : (Tryz.prog.globals[4]?).map (·.type) = some 217 := by kernel_rfl

theorem gNamesType : (Tryz.prog.globals[0]?).map (·.type) = some 117 := by kernel_rfl

theorem namesData : (Rows.laid_forebay_code_names : DataW Unit) = .agg (opNames.map fun z => .lit (.string z)) := by kernel_rfl

theorem star4 : "*" ++ "errors.errorString" = "*errors.errorString" := by decide

theorem rowErr4 (u : TypeId) (h : Tryz.prog.typeName? 3 u = some "*errors.errorString") : u = 193 :=
  typeName_ptr_named (nm := "errors.errorString") (by rw [star4]; kernel_rfl) (by kernel_rfl) (by decide) u (by rw [star4]; exact h)

theorem names_of {W : World} {r : List (String × DataW Unit)} (h : laidMet Tryz.prog (("forebay/code.names", Rows.laid_forebay_code_names) :: r) W) : NamesIs W := by
  rw [namesData] at h
  obtain ⟨ps, ⟨g', t', cs, fuel, p, q, hg', ht', hvar, hd, _, _⟩, _⟩ := h
  obtain rfl := Option.some.inj (gNames.symm.trans hg')
  obtain rfl := Option.some.inj (gNamesType.symm.trans ht')
  unfold NamesIs
  rw [hvar]
  have e := cells_of_strs Tryz.underlying117 Tryz.underlying9 (by kernel_rfl) (by kernel_rfl) hd
  congr 1
  rw [← Array.toArray_toList (xs := cs), e]
  unfold nameCells
  rfl

/-- What the rows of stages 4 and 6 list. -/
abbrev laidList4 : List (String × DataW Unit) := [("math/bits.deBruijn32tab", Rows.laid_math_bits_deBruijn32tab), ("math/bits.deBruijn64tab", Rows.laid_math_bits_deBruijn64tab), ("internal/strconv.uint64pow10", Rows.laid_internal_strconv_uint64pow10), ("strconv.ErrRange", Rows.laid_strconv_ErrRange), ("strconv.ErrSyntax", Rows.laid_strconv_ErrSyntax), ("forebay/code.names", Rows.laid_forebay_code_names)]

theorem envOf4 {W : World} (h : laidMetH Tryz.prog laidList4 W) (hsh : W.ShapedOpen Tryz.prog) : Env4 W := by
  have hL : laidMet Tryz.prog laidList4 W := h
  refine ⟨⟨Lib.tabIs_of_head (rest := _) gPow gPowType4 Tryz.underlying217 Tryz.underlying163 (by kernel_rfl) (by kernel_rfl) (laidMet.tail (laidMet.tail hL)), ?_, ?_⟩, names_of (laidMet.tail (laidMet.tail (laidMet.tail (laidMet.tail (laidMet.tail hL))))), ?_⟩
  · obtain ⟨a, s, hv, _⟩ := laid_sentinel (laidMet.tail (laidMet.tail (laidMet.tail (laidMet.tail hL)))) gSyn (by kernel_rfl) Tryz.underlying103 rowErr4 Tryz.underlying193 Tryz.underlying195 rfl rfl Tryz.underlying9 (by kernel_rfl) (by kernel_rfl)
    exact ⟨_, _, hv⟩
  · obtain ⟨a, s, hv, _⟩ := laid_sentinel (laidMet.tail (laidMet.tail (laidMet.tail hL))) gRan (by kernel_rfl) Tryz.underlying103 rowErr4 Tryz.underlying193 Tryz.underlying195 rfl rfl Tryz.underlying9 (by kernel_rfl) (by kernel_rfl)
    exact ⟨_, _, hv⟩
  · exact cell_of_shapedOpen_int (P := Tryz.prog) (g := 1) (t := 3) (zero := #[.int .i64 0]) hsh (of_decide_eq_true (by kernel_rfl)) (by kernel_rfl) rfl (by kernel_rfl) (by kernel_rfl) Tryz.underlying3

def fills (cs : Array Value) : Obj → Obj
  | .cells _ t frozen => .cells cs t frozen
  | o => o

noncomputable def low : Nat := (World.holding Tryz.prog default ⟨#[], #[], []⟩).heap.size

/-- A world for the witness. -/
noncomputable def laidWorld4 (os : Os) : World :=
  { World.holding Tryz.prog os ⟨#[.cells #[.string ⟨#[118, 97, 108, 117, 101, 32, 111, 117, 116, 32, 111, 102, 32, 114, 97, 110, 103, 101]⟩] 195, .cells #[.string ⟨#[105, 110, 118, 97, 108, 105, 100, 32, 115, 121, 110, 116, 97, 120]⟩] 195], #[], []⟩ with heap := (((((((World.holding Tryz.prog os ⟨#[.cells #[.string ⟨#[118, 97, 108, 117, 101, 32, 111, 117, 116, 32, 111, 102, 32, 114, 97, 110, 103, 101]⟩] 195, .cells #[.string ⟨#[105, 110, 118, 97, 108, 105, 100, 32, 115, 121, 110, 116, 97, 120]⟩] 195], #[], []⟩).heap.modify 4 (fills #[.int .u64 1, .int .u64 10, .int .u64 100, .int .u64 1000, .int .u64 10000, .int .u64 100000, .int .u64 1000000, .int .u64 10000000, .int .u64 100000000, .int .u64 1000000000, .int .u64 10000000000, .int .u64 100000000000, .int .u64 1000000000000, .int .u64 10000000000000, .int .u64 100000000000000, .int .u64 1000000000000000, .int .u64 10000000000000000, .int .u64 100000000000000000, .int .u64 1000000000000000000, .int .u64 10000000000000000000])).modify 5 (fills #[.int .u8 0, .int .u8 1, .int .u8 28, .int .u8 2, .int .u8 29, .int .u8 14, .int .u8 24, .int .u8 3, .int .u8 30, .int .u8 22, .int .u8 20, .int .u8 15, .int .u8 25, .int .u8 17, .int .u8 4, .int .u8 8, .int .u8 31, .int .u8 27, .int .u8 13, .int .u8 23, .int .u8 21, .int .u8 19, .int .u8 16, .int .u8 7, .int .u8 26, .int .u8 12, .int .u8 18, .int .u8 6, .int .u8 11, .int .u8 5, .int .u8 10, .int .u8 9])).modify 6 (fills #[.int .u8 0, .int .u8 1, .int .u8 56, .int .u8 2, .int .u8 57, .int .u8 49, .int .u8 28, .int .u8 3, .int .u8 61, .int .u8 58, .int .u8 42, .int .u8 50, .int .u8 38, .int .u8 29, .int .u8 17, .int .u8 4, .int .u8 62, .int .u8 47, .int .u8 59, .int .u8 36, .int .u8 45, .int .u8 43, .int .u8 51, .int .u8 22, .int .u8 53, .int .u8 39, .int .u8 33, .int .u8 30, .int .u8 24, .int .u8 18, .int .u8 12, .int .u8 5, .int .u8 63, .int .u8 55, .int .u8 48, .int .u8 27, .int .u8 60, .int .u8 41, .int .u8 37, .int .u8 16, .int .u8 46, .int .u8 35, .int .u8 44, .int .u8 21, .int .u8 52, .int .u8 32, .int .u8 23, .int .u8 11, .int .u8 54, .int .u8 26, .int .u8 40, .int .u8 15, .int .u8 34, .int .u8 20, .int .u8 31, .int .u8 10, .int .u8 25, .int .u8 14, .int .u8 19, .int .u8 9, .int .u8 13, .int .u8 8, .int .u8 7, .int .u8 6])).modify 3 (fills #[.iface 193 (.pointer (some ⟨low, 0, none⟩))])).modify 2 (fills #[.iface 193 (.pointer (some ⟨low + 1, 0, none⟩))])).modify 0 (fills #[.string ⟨#[72, 65, 76, 84]⟩, .string ⟨#[80, 85, 83, 72]⟩, .string ⟨#[80, 85, 83, 72, 73]⟩, .string ⟨#[73, 78]⟩, .string ⟨#[76, 79, 65, 68]⟩, .string ⟨#[83, 84, 79, 82, 69]⟩, .string ⟨#[65, 68, 68]⟩, .string ⟨#[83, 85, 66]⟩, .string ⟨#[77, 85, 76]⟩, .string ⟨#[67, 79, 78, 74]⟩, .string ⟨#[84, 85, 82, 78]⟩, .string ⟨#[68, 85, 80]⟩, .string ⟨#[83, 87, 65, 80]⟩, .string ⟨#[68, 82, 79, 80]⟩, .string ⟨#[69, 77, 73, 84]⟩, .string ⟨#[74, 90]⟩, .string ⟨#[74, 77, 80]⟩, .string ⟨#[76, 84]⟩])) }

end Go.Proofs.YtfhlpbjdcdagjaaGreatDoor

namespace Go.Proofs.YtfhlpbjdcdagjaaGreatDoor
open Go.RowKit Go.Joins Go.ChangeShapes Go.WideShapes
set_option linter.unusedVariables false
set_option maxRecDepth 100000

theorem under_val : Tryz.prog.underlying 31 = some (.struct #[{ name := "Re", type := 3, offset := 0, embedded := false, tag := "", pkgPath := "", byteOffset := 0 }, { name := "Im", type := 3, offset := 1, embedded := false, tag := "", pkgPath := "", byteOffset := 8 }]) := by kernel_rfl
theorem cells_val : Tryz.prog.cellsOf 31 = 2 := by kernel_rfl

section
variable {H : Type} {enc : TypeId × Value → H} {w : World} {base : Nat} {spare : Nat → Bool} {held : Bool}
theorem open_val {r : Reach} {b0 : Nat} {v : Value} {d : DataW H} {p : List MemPlace} (hv : Value.okWide Tryz.prog w r b0 31 v) (h : DataW.Trod enc Tryz.prog w base spare held 31 v d p) :
    ∃ m n, v = .agg #[.int .i64 m, .int .i64 n] ∧ d = .agg [.lit (.int .i64 m), .lit (.int .i64 n)] ∧ p = [] ∧ (Lit.int .i64 m).wf = true ∧ (Lit.int .i64 n).wf = true := by
  obtain ⟨v0, v1, y0, y1, k, rfl, rfl, rfl, h0, h1⟩ := open_agg2 under_val (by kernel_rfl) cells_val hv h
  obtain ⟨m, hm, rfl, wm⟩ := DataW.trod_int Tryz.underlying3 h0
  obtain ⟨n, hn, rfl, wn⟩ := DataW.trod_int Tryz.underlying3 h1
  obtain rfl : v0 = .int .i64 m := by simpa using hm
  obtain rfl : v1 = .int .i64 n := by simpa using hn
  exact ⟨m, n, rfl, rfl, rfl, wm, wn⟩
theorem shut_val {m n : Int} (hm : (Lit.int .i64 m).wf = true) (hn : (Lit.int .i64 n).wf = true) : DataW.Trod enc Tryz.prog w base spare held 31 (.agg #[.int .i64 m, .int .i64 n]) (.agg [.lit (.int .i64 m), .lit (.int .i64 n)]) [] :=
  shut_agg2 (y0 := (.lit (.int .i64 m), [])) (y1 := (.lit (.int .i64 n), [])) under_val (by kernel_rfl) cells_val ⟨1, trod_int_mk 0 Tryz.underlying3 hm⟩ ⟨1, trod_int_mk 0 Tryz.underlying3 hn⟩
def numOf : Value → Int
  | .int _ n => n
  | _ => 0

theorem open_vals {fuel : Nat} {a : Option Addr} {len cap : Nat} {x : DataW H × List MemPlace} (h : DataW.trod enc Tryz.prog w base spare held fuel 77 [.slice a len cap] = some x) :
    ∃ l, SvIn w (.slice a len cap) l := by
  rcases Go.Deep.open_slice_pairs Tryz.underlying77 under_val cells_val rfl rfl (by kernel_rfl) (by kernel_rfl) h with ⟨hcs, _⟩ | ⟨p, len', cap', m, n, V0, V1, D0, D1, P0, P1, hcs, _, hl, hm, hmm, _, hx⟩
  · simp at hcs
    obtain ⟨rfl, rfl, rfl⟩ := hcs
    exact ⟨[], ⟨⟨_, _, rfl, Nat.le_refl _, fun h => absurd h (by simp)⟩, fun j hj => absurd hj (by simp), by simp⟩⟩
  · simp at hcs
    obtain ⟨rfl, rfl, rfl⟩ := hcs
    have hlm : len ≤ m := by rw [hmm]; split <;> omega
    have each : ∀ i, i < len → ∃ n0 n1, V0 i = .int .i64 n0 ∧ V1 i = .int .i64 n1 ∧ I64 n0 ∧ I64 n1 := by
      intro i hi
      obtain ⟨_, _, t0, t1⟩ := hx i (by omega)
      obtain ⟨n0, e0, _, w0⟩ := DataW.trod_int Tryz.underlying3 t0
      obtain ⟨n1, e1, _, w1⟩ := DataW.trod_int Tryz.underlying3 t1
      exact ⟨n0, n1, by simpa using e0, by simpa using e1, i64_of w0, i64_of w1⟩
    obtain ⟨b, off, spot⟩ := p
    have hget : ∀ j, j < len → (((List.range len).map fun i => (numOf (V0 i), numOf (V1 i))).getD j (0, 0)) = (numOf (V0 j), numOf (V1 j)) := by
      intro j hj
      rw [List.getD_eq_getElem?_getD, List.getElem?_map, List.getElem?_range hj]
      rfl
    refine ⟨(List.range len).map fun i => (numOf (V0 i), numOf (V1 i)), ⟨?_, ?_, by simp; omega⟩⟩
    · refine ⟨some ⟨b, off, spot⟩, cap, by simp, by simpa using hl, fun hp => ?_⟩
      have hp' : 0 < len := by simpa using hp
      have h0 := (hx 0 (by omega)).1
      have hspot : spot = none := by simpa [Addr.add] using World.cell?_spot h0
      subst hspot
      refine ⟨b, off, rfl, ?_, fun j hj => ?_⟩
      · exact World.block_lt_of_cell? w ⟨b, off, none⟩ (by simpa [Addr.add] using h0)
      · have hj' : j < len := by simpa using hj
        obtain ⟨c0, c1, _, _⟩ := hx j (by omega)
        obtain ⟨n0, n1, e0, e1, _, _⟩ := each j hj'
        rw [addr_add] at c0 c1
        rw [hget j hj', e0, e1]
        rw [e0] at c0
        rw [e1] at c1
        exact ⟨c0, by rw [Nat.add_assoc]; exact c1⟩
    · intro j hj
      have hj' : j < len := by simpa using hj
      obtain ⟨n0, n1, e0, e1, i0, i1⟩ := each j hj'
      rw [hget j hj', e0, e1]
      exact ⟨i0, i1⟩

theorem open_arr2 {r : Reach} {b0 : Nat} {v : Value} {d : DataW H} {p : List MemPlace} (hv : Value.okWide Tryz.prog w r b0 32 v) (h : DataW.Trod enc Tryz.prog w base spare held 32 v d p) :
    ∃ a b c e, v = .agg #[.int .i64 a, .int .i64 b, .int .i64 c, .int .i64 e] ∧ (I64 a ∧ I64 b) ∧ (I64 c ∧ I64 e) := by
  have hct : Tryz.prog.cellsOf 32 = 4 := by kernel_rfl
  have hu := Tryz.underlying32
  simp only [Value.okWide, hu] at hv
  obtain ⟨cs, rfl, hsz, _⟩ := hv
  obtain ⟨x0, x1, x2, x3, rfl⟩ := array4 (hsz.trans hct)
  obtain ⟨fuel, hf⟩ := h
  cases fuel with
  | zero => simp [DataW.trod] at hf
  | succ fuel =>
    simp only [DataW.trod, hu, hct, cells_val] at hf
    split at hf
    · obtain ⟨xs, hm, _⟩ := Option.map_eq_some_iff.1 hf
      obtain ⟨y0, _, h0⟩ := Lib.mapM_at hm 0 0 (by simp)
      obtain ⟨y1, _, h1⟩ := Lib.mapM_at hm 1 1 (by simp)
      have each : ∀ (u v : Value) (y : DataW H × List MemPlace), DataW.trod enc Tryz.prog w base spare held fuel 31 [u, v] = some y → ∃ m n, u = .int .i64 m ∧ v = .int .i64 n ∧ I64 m ∧ I64 n := by
        intro u v y hy
        obtain ⟨z0, z1, n, _, _, k0, k1⟩ := trod_struct2 under_val hy
        have q : Tryz.prog.cellsOf 3 = 1 := by kernel_rfl
        simp only [q] at k0 k1
        obtain ⟨m, e0, _, w0⟩ := DataW.trod_int Tryz.underlying3 k0
        obtain ⟨n, e1, _, w1⟩ := DataW.trod_int Tryz.underlying3 k1
        exact ⟨m, n, by simpa using e0, by simpa using e1, i64_of w0, i64_of w1⟩
      obtain ⟨a, b, e0, e1, i0, i1⟩ := each x0 x1 y0 (by simpa [Value.cells] using h0)
      obtain ⟨c, e, e2, e3, i2, i3⟩ := each x2 x3 y1 (by simpa [Value.cells] using h1)
      exact ⟨a, b, c, e, by rw [e0, e1, e2, e3], ⟨i0, i1⟩, ⟨i2, i3⟩⟩
    · cases hf

end

end Go.Proofs.YtfhlpbjdcdagjaaGreatDoor

namespace Go.Proofs.YtfhlpbjdcdagjaaGreatDoor
open Go.RowKit Go.Joins Go.ChangeShapes Go.WideShapes
set_option linter.unusedVariables false
set_option maxRecDepth 100000

theorem under_ent : Tryz.prog.underlying 37 = some (.struct #[{ name := "Node", type := 3, offset := 0, embedded := false, tag := "", pkgPath := "", byteOffset := 0 }, { name := "Key", type := 3, offset := 1, embedded := false, tag := "", pkgPath := "", byteOffset := 8 }, { name := "Cells", type := 32, offset := 2, embedded := false, tag := "", pkgPath := "", byteOffset := 16 }]) := by kernel_rfl

theorem under_rec : Tryz.prog.underlying 41 = some (.struct #[{ name := "Key", type := 3, offset := 0, embedded := false, tag := "", pkgPath := "", byteOffset := 0 }, { name := "Val", type := 31, offset := 1, embedded := false, tag := "", pkgPath := "", byteOffset := 8 }]) := by kernel_rfl

theorem cells_ent : Tryz.prog.cellsOf 37 = 6 := by kernel_rfl

theorem cells_rec : Tryz.prog.cellsOf 41 = 3 := by kernel_rfl

theorem cells_arr : Tryz.prog.cellsOf 32 = 4 := by kernel_rfl

theorem cells_int : Tryz.prog.cellsOf 3 = 1 := by kernel_rfl

section
variable {H : Type} {enc : TypeId × Value → H} {w : World} {base : Nat} {spare : Nat → Bool} {held : Bool}

theorem int_trod {n : Nat} {u : Value} {y : DataW H × List MemPlace} (h : DataW.trod enc Tryz.prog w base spare held n 3 [u] = some y) : ∃ a, u = .int .i64 a ∧ I64 a := by
  obtain ⟨a, e, _, wa⟩ := DataW.trod_int Tryz.underlying3 h
  exact ⟨a, by simpa using e, i64_of wa⟩

theorem val_trod {n : Nat} {u v : Value} {y : DataW H × List MemPlace} (h : DataW.trod enc Tryz.prog w base spare held n 31 [u, v] = some y) : ∃ a b, u = .int .i64 a ∧ v = .int .i64 b ∧ I64 a ∧ I64 b := by
  obtain ⟨z0, z1, m, _, _, k0, k1⟩ := trod_struct2 under_val h
  simp only [cells_int] at k0 k1
  obtain ⟨a, e0, i0⟩ := int_trod k0
  obtain ⟨b, e1, i1⟩ := int_trod k1
  exact ⟨a, b, e0, e1, i0, i1⟩

theorem arr_trod {n : Nat} {x0 x1 x2 x3 : Value} {y : DataW H × List MemPlace} (h : DataW.trod enc Tryz.prog w base spare held n 32 [x0, x1, x2, x3] = some y) : ∃ c : C4, [x0, x1, x2, x3] = [.int .i64 c.1.1, .int .i64 c.1.2, .int .i64 c.2.1, .int .i64 c.2.2] ∧ WfC c := by
  cases n with
  | zero => simp [DataW.trod] at h
  | succ n =>
    simp only [DataW.trod, Tryz.underlying32, cells_arr, cells_val] at h
    split at h
    · obtain ⟨xs, hm, _⟩ := Option.map_eq_some_iff.1 h
      obtain ⟨y0, _, h0⟩ := Lib.mapM_at hm 0 0 (by simp)
      obtain ⟨y1, _, h1⟩ := Lib.mapM_at hm 1 1 (by simp)
      obtain ⟨a, b, e0, e1, i0, i1⟩ := val_trod (u := x0) (v := x1) (y := y0) (by simpa using h0)
      obtain ⟨c, e, e2, e3, i2, i3⟩ := val_trod (u := x2) (v := x3) (y := y1) (by simpa using h1)
      exact ⟨((a, b), (c, e)), by rw [e0, e1, e2, e3], ⟨i0, i1⟩, ⟨i2, i3⟩⟩
    · cases h

theorem ent_trod {n : Nat} {cs : List Value} {y : DataW H × List MemPlace} (h : DataW.trod enc Tryz.prog w base spare held n 37 cs = some y) : ∃ x : Ent, cs = encE x ∧ entI x := by
  obtain ⟨xs, m, _, _, hl, hxl, hf⟩ := DataW.trod_struct under_ent h
  rw [cells_ent] at hl
  match cs, hl, xs, hxl with
  | [v0, v1, v2, v3, v4, v5], _, [y0, y1, y2], _ =>
    have g0 := hf 0 _ rfl
    have g1 := hf 1 _ rfl
    have g2 := hf 2 _ rfl
    obtain ⟨a, e0, i0⟩ := int_trod (u := v0) (y := y0) (by simpa [cells_int] using g0)
    obtain ⟨b, e1, i1⟩ := int_trod (u := v1) (y := y1) (by simpa [cells_int] using g1)
    obtain ⟨c, e2, i2⟩ := arr_trod (x0 := v2) (x1 := v3) (x2 := v4) (x3 := v5) (y := y2) (by simpa [cells_arr] using g2)
    refine ⟨((a, b), c), ?_, ⟨i0, i1⟩, i2⟩
    rw [e0, e1, e2]
    rfl

theorem rec_trod {n : Nat} {cs : List Value} {y : DataW H × List MemPlace} (h : DataW.trod enc Tryz.prog w base spare held n 41 cs = some y) : ∃ x : Rec3, cs = encR x ∧ I64 x.1 ∧ I64 x.2.1 ∧ I64 x.2.2 := by
  obtain ⟨xs, m, _, _, hl, hxl, hf⟩ := DataW.trod_struct under_rec h
  rw [cells_rec] at hl
  match cs, hl, xs, hxl with
  | [v0, v1, v2], _, [y0, y1], _ =>
    have g0 := hf 0 _ rfl
    have g1 := hf 1 _ rfl
    obtain ⟨a, e0, i0⟩ := int_trod (u := v0) (y := y0) (by simpa [cells_int] using g0)
    obtain ⟨b, c, e1, e2, i1, i2⟩ := val_trod (u := v1) (v := v2) (y := y1) (by simpa [cells_val] using g1)
    refine ⟨(a, (b, c)), ?_, i0, i1, i2⟩
    rw [e0, e1, e2]
    rfl

theorem spot_none {p : Addr} {v : Value} (h : w.cell? ((p.add 0).add 0) = some v) : p.spot = none := by
  have : w.cell? p = some v := by simpa [Addr.add] using h
  exact World.cell?_spot this

/-- The cells of the i-th of some elements of k cells. -/
theorem elem_cells {b off k : Nat} {e : TypeId} {cs : List Value} (hk : Tryz.prog.cellsOf e = k) {i : Nat} (h1 : w.cells? base ((⟨b, off, none⟩ : Addr).add (i * Tryz.prog.cellsOf e)) (Tryz.prog.cellsOf e) = some cs) : ∀ j, j < k → w.cell? ⟨b, off + i * k + j, none⟩ = cs[j]? := by
  rw [hk] at h1
  obtain ⟨_, hlen, hcell⟩ := World.cells?_some h1
  intro j hj
  have := hcell j hj
  rwa [addr_add, addr_add] at this

theorem open_ents {fuel : Nat} {a : Option Addr} {len cap : Nat} {x : DataW H × List MemPlace} (h : DataW.trod enc Tryz.prog w base spare held fuel 22 [.slice a len cap] = some x) :
    ∃ l : List Ent, SlE w w.heap.size (.slice a len cap) l ∧ (∀ j, j < l.length → entI (l.getD j e0)) := by
  rcases Go.Deep.open_slice Tryz.underlying22 h with ⟨hcs, _⟩ | ⟨p, len', cap', m, n, D, Pl, hcs, _, hl, hm, hmm, _, hx⟩
  · simp at hcs
    obtain ⟨rfl, rfl, rfl⟩ := hcs
    exact ⟨[], ⟨_, _, rfl, Nat.le_refl _, fun h => absurd h (by simp)⟩, fun j hj => absurd hj (by simp)⟩
  · simp at hcs
    obtain ⟨rfl, rfl, rfl⟩ := hcs
    have hlm : len ≤ m := by rw [hmm]; split <;> omega
    by_cases h0 : len = 0
    · subst h0
      exact ⟨[], ⟨_, _, rfl, Nat.zero_le _, fun h => absurd h (by simp)⟩, fun j hj => absurd hj (by simp)⟩
    · have hs : p.spot = none := by
        obtain ⟨cs', h1, h2⟩ := hx 0 (by omega)
        rw [cells_ent] at h1
        obtain ⟨_, hlen, hcell⟩ := World.cells?_some h1
        obtain ⟨y, rfl, _⟩ := ent_trod h2
        exact spot_none (hcell 0 (by omega))
      obtain ⟨b, off, spot⟩ := p
      simp only at hs
      subst hs
      have each : ∀ i, i < len → ∃ y : Ent, EntC w b (off + i * 6) y ∧ entI y := by
        intro i hi
        obtain ⟨cs', h1, h2⟩ := hx i (by omega)
        have c := elem_cells cells_ent h1
        obtain ⟨y, rfl, hy⟩ := ent_trod h2
        exact ⟨y, ⟨c 0 (by omega), c 1 (by omega), c 2 (by omega), c 3 (by omega), c 4 (by omega), c 5 (by omega)⟩, hy⟩
      obtain ⟨f, hf⟩ := Go.Deep.choose_lt each
      have hget : ∀ j, j < len → ((List.range len).map f).getD j e0 = f j := by
        intro j hj
        rw [List.getD_eq_getElem?_getD, List.getElem?_map, List.getElem?_range hj]
        rfl
      refine ⟨(List.range len).map f, ⟨some ⟨b, off, none⟩, cap, by simp, by simpa using hl, fun hp => ?_⟩, fun j hj => ?_⟩
      · refine ⟨b, off, rfl, World.block_lt_of_cell? w _ (hf 0 (by omega)).1.c0, fun j hj => ?_⟩
        have hj' : j < len := by simpa using hj
        rw [hget j hj']
        exact (hf j hj').1
      · have hj' : j < len := by simpa using hj
        rw [hget j hj']
        exact (hf j hj').2

theorem open_islice {fuel : Nat} {a : Option Addr} {len cap : Nat} {x : DataW H × List MemPlace} (h : DataW.trod enc Tryz.prog w base (fun _ => true) held fuel 42 [.slice a len cap] = some x) : ∃ zs, SlIn w .i64 (.slice a len cap) zs := by
  rcases open_ints Tryz.underlying42 Tryz.underlying3 (by kernel_rfl) h with ⟨hcs, _⟩ | ⟨x, l, c, zs, hcs, _, hl, hm, hz, _, hcell, hwz⟩
  · simp at hcs
    obtain ⟨rfl, rfl, rfl⟩ := hcs
    exact ⟨[], SlIn.none_ _ _⟩
  · simp at hcs
    obtain ⟨rfl, rfl, rfl⟩ := hcs
    exact ⟨zs.take _, SlIn.of_row hl hm (by simpa using hz) hcell hwz⟩

/-- Two records, as an array. -/
theorem open_recs2 {r : Reach} {b0 : Nat} {v : Value} {d : DataW H} {p : List MemPlace} (hv : Value.okWide Tryz.prog w r b0 65 v) (h : DataW.Trod enc Tryz.prog w base spare held 65 v d p) :
    ∃ k x y k' x' y', v = .agg #[.int .i64 k, .int .i64 x, .int .i64 y, .int .i64 k', .int .i64 x', .int .i64 y'] ∧ (I64 k ∧ I64 x ∧ I64 y) ∧ (I64 k' ∧ I64 x' ∧ I64 y') := by
  have hct : Tryz.prog.cellsOf 65 = 6 := by kernel_rfl
  have hu := Tryz.underlying65
  simp only [Value.okWide, hu] at hv
  obtain ⟨cs, rfl, hsz, _⟩ := hv
  obtain ⟨l⟩ := cs
  have hl : l.length = 6 := hsz.trans hct
  match l, hl with
  | [x0, x1, x2, x3, x4, x5], _ =>
    obtain ⟨fuel, hf⟩ := h
    cases fuel with
    | zero => simp [DataW.trod] at hf
    | succ fuel =>
      simp only [DataW.trod, hu, hct, cells_rec] at hf
      split at hf
      · obtain ⟨xs, hm, _⟩ := Option.map_eq_some_iff.1 hf
        obtain ⟨y0, _, h0⟩ := Lib.mapM_at hm 0 0 (by simp)
        obtain ⟨y1, _, h1⟩ := Lib.mapM_at hm 1 1 (by simp)
        obtain ⟨a, e0, i0⟩ := rec_trod (cs := [x0, x1, x2]) (y := y0) (by simpa [Value.cells] using h0)
        obtain ⟨b, e1, i1⟩ := rec_trod (cs := [x3, x4, x5]) (y := y1) (by simpa [Value.cells] using h1)
        simp [encR] at e0 e1
        obtain ⟨rfl, rfl, rfl⟩ := e0
        obtain ⟨rfl, rfl, rfl⟩ := e1
        exact ⟨_, _, _, _, _, _, rfl, i0, i1⟩
      · cases hf

end

end Go.Proofs.YtfhlpbjdcdagjaaGreatDoor
