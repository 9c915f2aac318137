/- Layer 7, cell: CellPlays: Run. -/
import Derived.Test.YtfhlpbjdcdagjaaGreatDoorHbd
namespace Go.Proofs.YtfhlpbjdcdagjaaGreatDoor
open Go.RowKit Go.Lib Go.MapKept
open Go.Sort (grow)
set_option linter.unusedVariables false
set_option maxRecDepth 100000

theorem run_bad1 {l : List (Int × Int)} {n k x y : Int} {c : C4} (h : okR n k x y = false) : runE l n k x y = 1 ∧ runO l n k x y c = [] ∧ runC l n k x y c = c := by unfold runE runO runC; simp [h]

theorem run_bad9 {l : List (Int × Int)} {n k x y : Int} {c : C4} (h : okR n k x y = true) (h2 : (chk l).isSome = false) : runE l n k x y = 9 ∧ runO l n k x y c = [] ∧ runC l n k x y c = c := by unfold runE runO runC; simp [h, h2]

theorem known_ok (v : Value) (mx em : Int) (u0 u1 ok : Bool) (w : World) : (Instr.field 52 (knV v mx em u0 u1 ok) 4).run Tryz.prog w = .ok (.bool ok) w := by
  kernel_rfl

theorem run_good {l : List (Int × Int)} {n k x y : Int} (h : okR n k x y = true) (h2 : (chk l).isSome = true) : runE l n k x y = 0 := by unfold runE; simp [h, h2]

set_option maxHeartbeats 1500000 in
theorem play_1 (w : World) (g gb tb : Nat) (m : Option Nat) (D : CTab) (vp vl v70 : Value) (N i n key xa xb xc xd rk rx ry : Int) (p : List (Int × Int)) (l : List Int) (act : Act) (wX : World) (HI : Hid (PlyI w g gb tb m D vp vl ⟨1, ((n, key), ((xa, xb), (xc, xd))), p, (rk, (rx, ry)), l⟩ wX)) (hfr : FrC (tabV tb) g gb v70 N i 1 act)
    (KA K4 K2 K3 : Act → World → Prop) (HE : Hid (∀ a w', PlyH w g gb v70 N i 1 vp vl ⟨1, ((n, key), ((xa, xb), (xc, xd))), p, (rk, (rx, ry)), l⟩ a w' → KA a w')) :
    (plyCod 22).wp Tryz.prog (Exit.inBlock 4 (Exit.then KA (Exit.inBlock 3 (Exit.then K4 (Exit.then K2 (Exit.inBlock 2 (Exit.then K3 (bodyPost Tryz.prog Tryz.f3 (fun e w' => e = .returned (.bool true) ∧ Below w.heap.size w w'))))))))) act wX := by
  obtain ⟨u, rfl⟩ := hfr.open_
  clear hfr
  conv => arg 2; whnf
  obtain ⟨lb, b0, b1, b2, -, -, -, -, b7, b8, b9, b10, -⟩ := HI.out.bx
  simp only at b1 b2 b8 b9 b10
  have HOI := hid HI.out.o
  have hbel := HI.out.pl.bel
  have hnp : p.length ≤ 24 := HI.out.np
  have HNP := hid hnp
  clear hnp
  obtain ⟨Ap, cp, hvpe, hcp, hpr⟩ := HI.out.p
  clear hcp hpr
  simp only at hvpe
  subst hvpe
  go_wp2_with fail
  refine (crun_any tb m D n rk rx ry HOI.out.x.1.1 HOI.out.r.1 HOI.out.r.2 (.slice Ap p.length cp) p (by have := HNP.out; omega) wX HI.out.pl.tab.at_ ((HI.out.p.below hbel).mono hbel.size)).mono ?_
  intro e w1 hr
  obtain ⟨A1, c1, m1, B1, rfl, ht1, hg1, hm1, hB1, htB1, hmB1, ho1⟩ := hr.all HI.out.pl.tab.at_
  have HP1 := hid (HI.out.pl.turn ht1 hg1 hm1)
  have HX1 := hid (HI.out.bx.grown hg1 HI.out.foot_ne)
  have HO1 := hid ho1
  have HGB1 : Hid (g < B1) := hid (by have := HI.out.pl.doc.lt; omega)
  have HOKD : Hid (OkT D) := hid HI.out.pl.tab.at_.ok
  clear hr ht1 hg1 hm1 hB1 htB1 hmB1 ho1 lb b0 b1 b2 b7 b8 b9 b10 hbel
  obtain ⟨lb, b0, b1, b2, -, -, -, -, b7, b8, b9, b10, -⟩ := HX1.out
  simp only at b1 b2 b8 b9 b10
  cases hok : okR n rk rx ry with
  | false =>
    obtain ⟨e1, e2, e3⟩ := run_bad1 (l := p) (c := D n rk) hok
    rw [e3, setT_id] at HP1
    rw [e1, e2]
    clear e1 e2 e3 HO1
    have HP := hid HP1.out
    by_cases hn0 : n < 0
    · clear HP1
      go_wp2_with fail
      exact HE.out _ _ ⟨tb, m1, _, ⟨rfl, rfl, rfl, rfl, rfl, rfl, rfl, rfl, rfl⟩, HP, HX1⟩
    · by_cases hn7 : 7 < n
      · clear HP1
        go_wp2_with fail
        exact HE.out _ _ ⟨tb, m1, _, ⟨rfl, rfl, rfl, rfl, rfl, rfl, rfl, rfl, rfl⟩, HP, HX1⟩
      · have HRB : Hid ((keyB rk && rgtB (rx, ry)) = false) := hid (by
          unfold okR at hok
          have : nodeB n = true := by unfold nodeB; simp only [Bool.and_eq_true, decide_eq_true_eq]; omega
          rw [this] at hok
          simpa using hok)
        clear hok HP1
        go_wp2_with fail
        refine (rrec_any rk rx ry false HRB w1).mono ?_
        rintro e w2 ⟨rfl, hb⟩
        have HP2 := hid (HP.out.below hb)
        have HX2 := hid (HX1.out.below hb)
        clear hb lb b0 b1 b2 b7 b8 b9 b10
        go_wp2_with fail
        exact HE.out _ _ ⟨tb, m1, _, ⟨rfl, rfl, rfl, rfl, rfl, rfl, rfl, rfl, rfl⟩, HP2, HX2⟩
  | true =>
    have hok2 := hok
    unfold okR nodeB at hok2
    simp only [Bool.and_eq_true, decide_eq_true_eq] at hok2
    have HRB : Hid ((keyB rk && rgtB (rx, ry)) = true) := hid (by rw [hok2.2.1, hok2.2.2]; rfl)
    have hn0 : ¬ n < 0 := by omega
    have hn7 : ¬ 7 < n := by omega
    have HOKR := hid hok
    clear hok hok2
    go_wp2_with fail
    refine (rrec_any rk rx ry true HRB w1).mono ?_
    rintro e w2 ⟨rfl, hb⟩
    have HP2 := hid (HP1.out.below hb)
    have HX2 := hid (HX1.out.below hb)
    have HO2 := hid (own_below HO1.out hb)
    clear hb lb b0 b1 b2 b7 b8 b9 b10 HP1 HX1 HO1
    obtain ⟨lb, b0, b1, b2, -, -, -, -, b7, b8, b9, b10, -⟩ := HX2.out
    simp only at b1 b2 b8 b9 b10
    have hbel := HP2.out.bel
    go_wp2_with fail
    refine (refcheck_any (.slice Ap p.length cp) p (chk p) (hid rfl) (by have := HNP.out; omega) w2 ((HI.out.p.below hbel).mono hbel.size)).mono ?_
    intro e w3 hrp
    clear hbel lb b0 b1 b2 b7 b8 b9 b10
    cases hq : chk p with
    | none =>
      rw [hq] at hrp
      obtain ⟨rfl, hb⟩ := hrp
      have hs : (chk p).isSome = false := by rw [hq]; rfl
      obtain ⟨e1, e2, e3⟩ := run_bad9 (l := p) (c := D n rk) HOKR.out hs
      rw [e3, setT_id] at HP2
      rw [e1, e2]
      have HP3 := hid (HP2.out.below hb)
      have HX3 := hid (HX2.out.below hb)
      have hkf := fun w => known_ok (.slice none 0 0) 0 0 false false false w
      clear hb e1 e2 e3 hs HP2 HX2 HO2
      go_wp2_with fail
      exact HE.out _ _ ⟨tb, m1, _, ⟨rfl, rfl, rfl, rfl, rfl, rfl, rfl, rfl, rfl⟩, HP3, HX3⟩
    | some s =>
      rw [hq] at hrp
      obtain ⟨vk, rfl, -, hb⟩ := hrp
      have hs : (chk p).isSome = true := by rw [hq]; rfl
      have HS := hid hs
      rw [run_good HOKR.out hs]
      have HP3 := hid (HP2.out.below hb)
      have HX3 := hid (HX2.out.below hb)
      have HO3 := hid (own_below HO2.out hb)
      have HLO : Hid ((runO p n rk rx ry (D n rk)).length ≤ 4) := hid (runO_len _ _ _ _ _ _ (HOKD.out.right _ _))
      clear hb hs hq HP2 HX2 HO2
      obtain ⟨lb, b0, b1, b2, -, -, -, -, b7, b8, b9, b10, -⟩ := HX3.out
      simp only at b1 b2 b8 b9 b10
      obtain ⟨O, hO⟩ : ∃ O, runO p n rk rx ry (D n rk) = O := ⟨_, rfl⟩
      have HOO := hid hO
      rw [hO] at HO3 HLO ⊢
      clear hO
      have hbel := HP3.out.bel
      have hkf := fun w => known_ok vk s.mx s.em s.u0 s.u1 true w
      go_wp2_with fail
      clear hkf
      have hkb : keyB rk = true ∧ rgtB (rx, ry) = true := by have := HRB.out; rw [Bool.and_eq_true] at this; exact this
      have hkk := hkb.1
      unfold keyB at hkk
      simp only [Bool.and_eq_true, decide_eq_true_eq] at hkk
      obtain ⟨zn, rfl⟩ : ∃ zn : Nat, n = zn := ⟨n.toNat, by omega⟩
      obtain ⟨zk, rfl⟩ : ∃ zk : Nat, rk = zk := ⟨rk.toNat, by omega⟩
      refine (rrun_any g D HOKD.out zn zk (by omega) (by omega) rx ry hkb.2 (.slice Ap p.length cp) p HS.out w3 HP3.out.doc ((HI.out.p.below hbel).mono hbel.size)).mono ?_
      rintro e w4 ⟨A4, c4, B4, rfl, ho4, hd4, hg4⟩
      rw [HOO.out] at ho4 ⊢
      have HP4 := hid (HP3.out.put hd4 hg4)
      have HX4 := hid (HX3.out.grown hg4 HI.out.ng.symm)
      have HO4 := hid (SlR.of_own (HO3.out.kept hg4 (own_ne HO3.out (HGB1.out))))
      have HR4 := hid (SlR.of_own ho4)
      clear ho4 hd4 hg4 hkb hkk lb b0 b1 b2 b7 b8 b9 b10 hbel
      go_wp2_with fail
      refine (crecs_any _ _ O O true (hid (by simp)) (by have := HLO.out; omega) (by have := HLO.out; omega) w4 HO4.out HR4.out).mono ?_
      rintro e w5 ⟨rfl, hb⟩
      have HP5 := hid (HP4.out.below hb)
      have HX5 := hid (HX4.out.below hb)
      clear hb
      go_wp2_with fail
      exact HE.out _ _ ⟨tb, m1, _, ⟨rfl, rfl, rfl, rfl, rfl, rfl, rfl, rfl, rfl⟩, HP5, HX5⟩

end Go.Proofs.YtfhlpbjdcdagjaaGreatDoor
