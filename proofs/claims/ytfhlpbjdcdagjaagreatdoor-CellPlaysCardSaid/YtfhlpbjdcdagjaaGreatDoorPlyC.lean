/- Layer 7, cell: CellPlays: Set. -/
import Derived.Test.YtfhlpbjdcdagjaaGreatDoorHbd
namespace Go.Proofs.YtfhlpbjdcdagjaaGreatDoor
open Go.RowKit Go.Lib Go.MapKept
open Go.Sort (grow)
set_option linter.unusedVariables false
set_option maxRecDepth 100000

set_option maxHeartbeats 4000000 in
theorem play_0 (w : World) (g gb tb : Nat) (m : Option Nat) (D : CTab) (vp vl v70 : Value) (N i n key xa xb xc xd rk rx ry : Int) (p : List (Int × Int)) (l : List Int) (act : Act) (wX : World) (HI : Hid (PlyI w g gb tb m D vp vl ⟨0, ((n, key), ((xa, xb), (xc, xd))), p, (rk, (rx, ry)), l⟩ wX)) (hfr : FrC (tabV tb) g gb v70 N i 0 act)
    (KA K4 K2 K3 : Act → World → Prop) (HE : Hid (∀ a w', PlyH w g gb v70 N i 0 vp vl ⟨0, ((n, key), ((xa, xb), (xc, xd))), p, (rk, (rx, ry)), l⟩ a w' → KA a w')) :
    (plyCod 22).wp Tryz.prog (Exit.inBlock 4 (Exit.then KA (Exit.inBlock 3 (Exit.then K4 (Exit.then K2 (Exit.inBlock 2 (Exit.then K3 (bodyPost Tryz.prog Tryz.f3 (fun e w' => e = .returned (.bool true) ∧ Below w.heap.size w w'))))))))) act wX := by
  obtain ⟨u, rfl⟩ := hfr.open_
  clear hfr
  conv => arg 2; whnf
  obtain ⟨lb, b0, b1, b2, b3, b4, b5, b6, -⟩ := HI.out.bx
  simp only at b1 b2 b3 b4 b5 b6
  have HOI := hid HI.out.o
  go_wp2_with fail
  refine (set_any tb m D n key xa xb xc xd HOI.out.x.1.1 HOI.out.x.1.2 HOI.out.x.2.1 HOI.out.x.2.2 wX HI.out.pl.tab.at_).mono ?_
  rintro e w1 hp
  rcases hp with ⟨hs, rfl, hb⟩ | ⟨hs, rfl, m', ht, hgr, hm⟩
  · have HS := hid hs
    have HP1 := hid (HI.out.pl.below hb)
    have HX1 := hid (HI.out.bx.below hb)
    clear hs hb lb b0 b1 b2 b3 b4 b5 b6
    obtain ⟨lb, b0, b1, b2, b3, b4, b5, b6, -⟩ := HX1.out
    simp only at b1 b2 b3 b4 b5 b6
    go_wp2_with fail
    refine (rright_any n key xa xb xc xd false HS w1).mono ?_
    rintro e w2 ⟨rfl, hb⟩
    have HP2 := hid (HP1.out.below hb)
    have HX2 := hid (HX1.out.below hb)
    clear hb lb b0 b1 b2 b3 b4 b5 b6
    go_wp2_with fail
    exact HE.out _ _ ⟨tb, m, D, ⟨rfl, rfl, rfl, rfl, rfl, rfl, rfl, rfl, rfl⟩, HP2, HX2⟩
  · have HS := hid hs
    have HP1 := hid (HI.out.pl.turn ht hgr hm)
    have HX1 := hid (HI.out.bx.grown hgr HI.out.foot_ne)
    clear ht hgr hm lb b0 b1 b2 b3 b4 b5 b6
    obtain ⟨lb, b0, b1, b2, b3, b4, b5, b6, -⟩ := HX1.out
    simp only at b1 b2 b3 b4 b5 b6
    go_wp2_with fail
    refine (rright_any n key xa xb xc xd true HS w1).mono ?_
    rintro e w2 ⟨rfl, hb⟩
    have HP2 := hid (HP1.out.below hb)
    have HX2 := hid (HX1.out.below hb)
    clear hb lb b0 b1 b2 b3 b4 b5 b6
    unfold setB nodeB keyB at hs
    simp only [Bool.and_eq_true, decide_eq_true_eq] at hs
    obtain ⟨zn, rfl⟩ : ∃ zn : Nat, n = zn := ⟨n.toNat, by omega⟩
    obtain ⟨zk, rfl⟩ : ∃ zk : Nat, key = zk := ⟨key.toNat, by omega⟩
    have hn8 : (zn : Int) < 8 := by omega
    have hk64 : (zk : Int) < 64 := by omega
    have HNK : Hid (zn < 8 ∧ zk < 64) := hid ⟨by omega, by omega⟩
    obtain ⟨lb, b0, b1, b2, b3, b4, b5, b6, -⟩ := HX2.out
    simp only at b1 b2 b3 b4 b5 b6
    obtain ⟨d0, d1, d2, d3⟩ := HP2.out.doc.q zn zk HNK.out.1 HNK.out.2
    have df := HP2.out.doc.f
    have lgd := HP2.out.doc.lt
    clear hs
    go_wp2_with fail
    refine cut_r (H := fun a w5 => FrC (tabV tb) g gb v70 N i 0 a ∧ w5 = (set4o w2 g (zn * 256 + zk * 4) xa xb xc xd).drew) ?_ fun hend => ?_
    · rintro a w5 ⟨hfr, hw5⟩
      have hgr5 : w2.grownBy w5 (some g) := by rw [hw5]; exact turned_drew (set4o_grown _ _ _ _ _ _ _)
      have HP5 := hid (HP2.out.put (by rw [hw5]; exact (HP2.out.doc.put HNK.out.1 HNK.out.2 xa xb xc xd).keep rfl (Nat.le_refl _)) hgr5)
      have HX5 := hid (HX2.out.grown hgr5 HI.out.ng.symm)
      exact HE.out _ _ ⟨tb, _, _, hfr, HP5, HX5⟩
    · go_region_law (fail)
      all_goals exact hend _ _ ⟨⟨rfl, rfl, rfl, rfl, rfl, rfl, rfl, rfl, rfl⟩, rfl⟩

end Go.Proofs.YtfhlpbjdcdagjaaGreatDoor
