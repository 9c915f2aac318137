/- Layer 7, cell: CellPlays: the switch. -/
import Derived.Test.YtfhlpbjdcdagjaaGreatDoorPlyC
import Derived.Test.YtfhlpbjdcdagjaaGreatDoorPlyD
import Derived.Test.YtfhlpbjdcdagjaaGreatDoorPlyE
import Derived.Test.YtfhlpbjdcdagjaaGreatDoorPlyF
import Derived.Test.YtfhlpbjdcdagjaaGreatDoorPlyG
namespace Go.Proofs.YtfhlpbjdcdagjaaGreatDoor
open Go.RowKit Go.Lib Go.MapKept
set_option linter.unusedVariables false
set_option maxRecDepth 100000

theorem play_switch (w : World) (g gb tb : Nat) (m : Option Nat) (D : CTab) (vp vl v70 : Value) (N i k n key xa xb xc xd rk rx ry : Int) (p : List (Int × Int)) (l : List Int) (act : Act) (wX : World) (HI : Hid (PlyI w g gb tb m D vp vl ⟨k, ((n, key), ((xa, xb), (xc, xd))), p, (rk, (rx, ry)), l⟩ wX)) (hfr : FrC (tabV tb) g gb v70 N i k act)
    (KA K4 K2 K3 : Act → World → Prop) (HE : Hid (∀ a w', PlyH w g gb v70 N i k vp vl ⟨k, ((n, key), ((xa, xb), (xc, xd))), p, (rk, (rx, ry)), l⟩ a w' → KA a w')) :
    (plyCod 22).wp Tryz.prog (Exit.inBlock 4 (Exit.then KA (Exit.inBlock 3 (Exit.then K4 (Exit.then K2 (Exit.inBlock 2 (Exit.then K3 (bodyPost Tryz.prog Tryz.f3 (fun e w' => e = .returned (.bool true) ∧ Below w.heap.size w w'))))))))) act wX := by
  by_cases h0 : k = 0
  · subst h0; exact play_0 w g gb tb m D vp vl v70 N i n key xa xb xc xd rk rx ry p l act wX HI hfr KA K4 K2 K3 HE
  by_cases h1 : k = 1
  · subst h1; exact play_1 w g gb tb m D vp vl v70 N i n key xa xb xc xd rk rx ry p l act wX HI hfr KA K4 K2 K3 HE
  by_cases h2 : k = 2
  · subst h2; exact play_2 w g gb tb m D vp vl v70 N i n key xa xb xc xd rk rx ry p l act wX HI hfr KA K4 K2 K3 HE
  by_cases h3 : k = 3
  · subst h3; exact play_3 w g gb tb m D vp vl v70 N i n key xa xb xc xd rk rx ry p l act wX HI hfr KA K4 K2 K3 HE
  by_cases h4 : k = 4
  · subst h4; exact play_4 w g gb tb m D vp vl v70 N i n key xa xb xc xd rk rx ry p l act wX HI hfr KA K4 K2 K3 HE
  exact play_n w g gb tb m D vp vl v70 N i k n key xa xb xc xd rk rx ry p l act wX h0 h1 h2 h3 h4 HI hfr KA K4 K2 K3 HE

end Go.Proofs.YtfhlpbjdcdagjaaGreatDoor

namespace Go.Proofs.YtfhlpbjdcdagjaaGreatDoor
open Go.RowKit Go.Lib Go.MapKept
open Go.Sort (grow)
set_option linter.unusedVariables false
set_option maxRecDepth 100000

def slotsP0 (tb g gb : Nat) (v70 : Value) (n i en ek a b e d : Int) : List Ks :=
  [.any, .any, .any, .any, .any, .is (tabV tb), .any, .is (.pointer (some ⟨g, 0, none⟩)), .any, .any, .any, .is (.pointer (some ⟨gb, 0, none⟩)), .any, .any, .any, .any, .any, .any, .any, .any, .any, .any, .any, .any, .any, .any, .any, .any, .any, .any, .any, .any, .any, .any, .any, .any, .any, .any, .any, .any, .any, .any, .any, .any, .any, .any, .any, .any, .any, .any, .any, .any, .any, .any, .any, .any, .any, .any, .any, .any, .any, .any, .any, .any, .any, .any, .any, .any, .any, .any, .is (v70), .is (.int .i64 n), .is (.int .i64 i), .any, .any, .any, .any, .any, .any, .any, .any, .any, .any, .any, .any, .any, .any, .any, .any, .any, .any, .any, .any, .any, .any, .any, .any, .any, .any, .any, .any, .any, .any, .any, .any, .any, .any, .any, .any, .any, .any, .any, .any, .any, .any, .any, .any, .any, .any, .any, .any, .any, .any, .any, .any, .any, .any, .any, .any, .any, .any, .any, .any, .any, .any, .any, .any, .any, .any, .any, .any, .any, .any, .any, .any, .any, .any, .any, .any, .any, .any, .any, .any, .any, .any, .any, .any, .any, .any, .any, .any, .any, .any, .any, .any, .any, .any, .any, .any, .any, .any, .any, .any, .any, .any, .any, .any, .any, .any, .any, .any, .any, .any, .any, .any, .any, .any, .any, .any, .any, .any, .any, .any, .any, .any, .any, .any, .any, .any, .any, .any, .any, .any, .any, .any, .any, .any, .any, .any, .any, .any, .any, .any, .any, .any, .any, .any, .any, .any, .any, .any, .any, .any, .any, .any, .any, .any, .any, .any, .any, .any, .any, .any, .any, .any, .any, .any, .any, .any, .any, .any, .any, .any, .any, .any, .any, .any, .any, .any, .any, .any, .any, .any, .any, .any, .any, .any, .any, .any, .any, .any, .any, .any, .any, .any, .any, .any, .any, .any, .any, .any, .any, .any, .any, .any, .any, .any, .any, .any, .any, .any, .any, .any, .any, .any, .any, .any, .any, .any, .any, .any, .any, .any, .is (.pointer (some ⟨gb, 1, none⟩)), .is (.agg #[.int .i64 en, .int .i64 ek, .int .i64 a, .int .i64 b, .int .i64 e, .int .i64 d]), .is (.bool false), .is (.bool false), .is (undef), .is (undef), .is (undef), .is (undef), .is (undef), .is (undef), .is (undef), .is (undef), .is (undef), .is (undef), .is (undef), .is (undef), .is (undef), .is (undef), .is (undef), .is (undef), .is (undef), .is (undef), .is (undef), .is (undef), .is (.bool false)]

def slotsP1 (tb g gb : Nat) (v70 : Value) (n i en ek a b e d : Int) (zn zk : Nat) (c : C4) : List Ks :=
  [.any, .any, .any, .any, .any, .is (tabV tb), .any, .is (.pointer (some ⟨g, 0, none⟩)), .any, .any, .any, .is (.pointer (some ⟨gb, 0, none⟩)), .any, .any, .any, .any, .any, .any, .any, .any, .any, .any, .any, .any, .any, .any, .any, .any, .any, .any, .any, .any, .any, .any, .any, .any, .any, .any, .any, .any, .any, .any, .any, .any, .any, .any, .any, .any, .any, .any, .any, .any, .any, .any, .any, .any, .any, .any, .any, .any, .any, .any, .any, .any, .any, .any, .any, .any, .any, .any, .is (v70), .is (.int .i64 n), .is (.int .i64 i), .any, .any, .any, .any, .any, .any, .any, .any, .any, .any, .any, .any, .any, .any, .any, .any, .any, .any, .any, .any, .any, .any, .any, .any, .any, .any, .any, .any, .any, .any, .any, .any, .any, .any, .any, .any, .any, .any, .any, .any, .any, .any, .any, .any, .any, .any, .any, .any, .any, .any, .any, .any, .any, .any, .any, .any, .any, .any, .any, .any, .any, .any, .any, .any, .any, .any, .any, .any, .any, .any, .any, .any, .any, .any, .any, .any, .any, .any, .any, .any, .any, .any, .any, .any, .any, .any, .any, .any, .any, .any, .any, .any, .any, .any, .any, .any, .any, .any, .any, .any, .any, .any, .any, .any, .any, .any, .any, .any, .any, .any, .any, .any, .any, .any, .any, .any, .any, .any, .any, .any, .any, .any, .any, .any, .any, .any, .any, .any, .any, .any, .any, .any, .any, .any, .any, .any, .any, .any, .any, .any, .any, .any, .any, .any, .any, .any, .any, .any, .any, .any, .any, .any, .any, .any, .any, .any, .any, .any, .any, .any, .any, .any, .any, .any, .any, .any, .any, .any, .any, .any, .any, .any, .any, .any, .any, .any, .any, .any, .any, .any, .any, .any, .any, .any, .any, .any, .any, .any, .any, .any, .any, .any, .any, .any, .any, .any, .any, .any, .any, .any, .any, .any, .any, .any, .any, .any, .any, .any, .any, .any, .any, .any, .any, .any, .any, .any, .any, .any, .any, .any, .is (.pointer (some ⟨gb, 1, none⟩)), .is (.agg #[.int .i64 en, .int .i64 ek, .int .i64 a, .int .i64 b, .int .i64 e, .int .i64 d]), .is (.bool true), .is (.bool true), .is (tabV tb), .is (.pointer (some ⟨gb, 1, none⟩)), .is (.pointer (some ⟨gb, 1, none⟩)), .is (.int .i64 (en)), .is (.pointer (some ⟨gb, 1, none⟩)), .is (.pointer (some ⟨gb, 2, none⟩)), .is (.int .i64 (ek)), .is (.agg #[.int .i64 c.1.1, .int .i64 c.1.2, .int .i64 c.2.1, .int .i64 c.2.2]), .is (.pointer (some ⟨g, 0, none⟩)), .is (.pointer (some ⟨gb, 1, none⟩)), .is (.pointer (some ⟨gb, 1, none⟩)), .is (.int .i64 (en)), .is (.pointer (some ⟨gb, 1, none⟩)), .is (.pointer (some ⟨gb, 2, none⟩)), .is (.int .i64 (ek)), .is (.pointer (some ⟨g, 0, none⟩)), .is (.pointer (some ⟨g, zn * 256, none⟩)), .is (.pointer (some ⟨g, zn * 256 + zk * 4, none⟩)), .is (.agg #[.int .i64 c.1.1, .int .i64 c.1.2, .int .i64 c.2.1, .int .i64 c.2.2]), .is (.bool false), .is (.bool false)]

set_option maxHeartbeats 4000000 in
theorem play_round (w : World) (g : Nat) (A1 : Option Addr) (c1 : Nat) (ops : List OpT) (hops : ops.length ≤ 100) (HO : Hid (SlO w w.heap.size (.slice A1 ops.length c1) ops)) (HOI : Hid (∀ j, j < ops.length → OpI (ops.getD j op0))) (gk : Nat) (act : Act) (wr : World) (hinv : RIb w g (.slice A1 ops.length c1) ops.length gk act wr)
    (K2 K3 : Act → World → Prop) (HK2 : Hid (∀ m a' w', m < gk → RIb w g (.slice A1 ops.length c1) ops.length m a' w' → K2 a' w')) (HK3 : Hid (∀ v5 i a' w', FrB v5 g (.slice A1 ops.length c1) (ops.length : Int) i a' → Below w.heap.size w w' → K3 a' w')) :
    (plyCod 17).wp Tryz.prog (Exit.then K2 (Exit.inBlock 2 (Exit.then K3 (bodyPost Tryz.prog Tryz.f3 (fun e w' => e = .returned (.bool true) ∧ Below w.heap.size w w'))))) act wr := by
  obtain ⟨j, tb, m, D, hfr, hj, HPL, hgk⟩ := hinv
  obtain ⟨u, rfl⟩ := hfr.open_
  clear hfr
  conv => arg 2; whnf
  by_cases hlt : j < ops.length
  · obtain ⟨Aq, cq, hv, hcq, hrow⟩ := HO.out
    injection hv with e1 e2 e3
    obtain ⟨bq, oq, hA, hbq, hx⟩ := hrow (by omega)
    obtain rfl : A1 = some ⟨bq, oq, none⟩ := e1.trans hA
    subst e3
    obtain ⟨ok, n, key, a, b, c, d, rk, rx, ry, p, l, hz⟩ := op_of (y := ops.getD j op0)
    have hx' := hx j hlt
    have hoi := HOI.out j hlt
    rw [hz] at hx' hoi
    obtain ⟨vp, p7, hvp⟩ := hx'.p
    obtain ⟨vl, p11, hvl⟩ := hx'.l
    have hcl := fun o => HPL.out.bel.cell (p := ⟨bq, o, none⟩) hbq
    have q0 := (hcl _).trans hx'.k; have q1 := (hcl _).trans hx'.x0; have q2 := (hcl _).trans hx'.x1; have q3 := (hcl _).trans hx'.x2; have q4 := (hcl _).trans hx'.x3; have q5 := (hcl _).trans hx'.x4; have q6 := (hcl _).trans hx'.x5
    have q7 := (hcl _).trans p7; have q8 := (hcl _).trans hx'.r0; have q9 := (hcl _).trans hx'.r1; have q10 := (hcl _).trans hx'.r2; have q11 := (hcl _).trans p11
    simp only at q0 q1 q2 q3 q4 q5 q6 q8 q9 q10 hvp hvl
    have HOI2 := hid hoi; have HP := hid hvp; have HLI := hid hvl
    obtain ⟨Ap, cp, rfl, _, _⟩ := hvp
    obtain ⟨Al, cl, rfl, _, _⟩ := hvl
    have hwp1 := wrap_succ (t := j) (T := (j : Int)) rfl (by omega)
    clear hrow hx hx' hoi hz hA e1 e2 hcq p7 p11 hcl
    go_upto_region 19 with fail
    obtain ⟨X, hX, HBX, HXB⟩ := boxO wr ok n key a b c d rk rx ry (.slice Ap p.length cp) (.slice Al l.length cl) p l 44
    have HPX := hid (HPL.out.below HBX.out)
    obtain ⟨gb, hgb⟩ : ∃ gb, wr.heap.size = gb := ⟨_, rfl⟩
    have HGB := hid hgb
    rw [hgb] at HXB
    try rw [hX]
    try rw [hgb]
    clear hX hgb q0 q1 q2 q3 q4 q5 q6 q7 q8 q9 q10 q11
    have hbx := HXB.out
    obtain ⟨lb, b0, b1, b2, b3, b4, b5, b6, b7, b8, b9, b10, b11⟩ := hbx
    simp only at b0 b1 b2 b3 b4 b5 b6 b8 b9 b10
    by_cases h24 : 24 < p.length
    · have h24' : (24 : Int) < (p.length : Int) := by omega
      go_wp2_with fail
      go_ret
      exact ⟨rfl, HPX.out.bel⟩
    · have h24' : ¬ (24 : Int) < (p.length : Int) := by omega
      by_cases h20 : 20 < l.length
      · have h20' : (20 : Int) < (l.length : Int) := by omega
        go_wp2_with fail
        go_ret
        exact ⟨rfl, HPX.out.bel⟩
      · have h20' : ¬ (20 : Int) < (l.length : Int) := by omega
        go_upto_region 21 with fail
        iterate 11 go_step
        refine cut_c (PlyH w g gb (.slice (some ⟨bq, oq, none⟩) ops.length c1) (ops.length : Int) (j : Int) ok (.slice Ap p.length cp) (.slice Al l.length cl) ⟨ok, ((n, key), ((a, b), (c, d))), p, (rk, (rx, ry)), l⟩) ?_ fun hend => ?_
        · rintro a5 w5 ⟨tb5, m5, D5, hfr, HP5, HX5⟩
          obtain ⟨u5, rfl⟩ := hfr.open_
          clear hfr b0 b1 b2 b3 b4 b5 b6 b7 b8 b9 b10 b11 lb HXB HPX HPL
          go_wp2_with fail
          refine (all_any tb5 m5 D5 w5 HP5.out.tab.at_).mono ?_
          rintro e w6 ⟨A6, c6, rfl, ho6, hb6⟩
          have HP6 := hid (HP5.out.below hb6)
          have HX6 := hid (HX5.out.below hb6)
          have HS6 := hid (SlE.of_own ho6)
          clear ho6 hb6 HP5 HX5
          go_wp2_with fail
          refine (rall_any g D5 w6 HP6.out.doc).mono ?_
          rintro e w61 ⟨A61, c61, rfl, ho61, hb61⟩
          have HP61 := hid (HP6.out.below hb61)
          have HX61 := hid (HX6.out.below hb61)
          have HS61 := hid (SlE.of_own ho61)
          have HS6b := hid (HS6.out.up hb61)
          clear ho61 hb61 HP6 HX6 HS6
          go_wp2_with fail
          refine (csame_any _ _ (ents D5 fun _ => true) (ents D5 fun _ => true) true (hid (by simp)) (by have := ents_len D5 fun _ => true; omega) (by have := ents_len D5 fun _ => true; omega) w61 HS6b.out HS61.out).mono ?_
          rintro e w7 ⟨rfl, hb7⟩
          have HP5 := hid (HP61.out.below hb7)
          have HX7 := hid (HX61.out.below hb7)
          clear hb7 HP61 HX61 HS61 HS6b
          go_wp2_with fail
          obtain ⟨lb, -, b1, b2, b3, b4, b5, b6, -⟩ := HX7.out
          simp only at b1 b2 b3 b4 b5 b6
          refine cut_r (H := fun a' w' => FrD (tabV tb5) g (.slice (some ⟨bq, oq, none⟩) ops.length c1) (ops.length : Int) (j : Int) (.bool false) a' ∧ Hid (Below w7.heap.size w7 w')) ?_ fun hend2 => ?_
          · rintro a8 w8 ⟨hfr, HB8⟩
            obtain ⟨u8, rfl⟩ := hfr.open_
            have HP8 := hid (HP5.out.below HB8.out)
            clear hfr b1 b2 b3 b4 b5 b6 lb
            go_wp2_with fail
            exact HK2.out (ops.length - (j + 1)) _ _ (go_down hlt hgk) ⟨j + 1, tb5, m5, D5, ⟨rfl, rfl, rfl, rfl, rfl, rfl, by first | exact congrArg (Value.int .i64) hwp1 | rfl⟩, hlt, HP8, Nat.le_refl _⟩
          · obtain ⟨β, hβ⟩ : ∃ β, setB n key ((a, b), (c, d)) = β := ⟨_, rfl⟩
            have HBT := hid hβ
            clear hβ
            cases β with
            | false =>
              refine region_und (T := fun k => ((slotsP0 tb5 g gb (.slice (some ⟨bq, oq, none⟩) ops.length c1) (ops.length : Int) (j : Int) n key a b c d).getD k .any).ok) (G := fun w' => Hid (Below w7.heap.size w7 w')) (bs := [5, 7, 11, 70, 71, 72]) 319 (by kernel_rfl) rfl (by kernel_rfl) (fun k u w w' => Ks.stable _ u w w') (hid (Below.refl _ _).drew) ?_ ?_ ?_
              · refine List.forall_mem_cons.2 ⟨rfl, List.forall_mem_cons.2 ⟨rfl, List.forall_mem_cons.2 ⟨rfl, List.forall_mem_cons.2 ⟨rfl, List.forall_mem_cons.2 ⟨rfl, List.forall_mem_cons.2 ⟨rfl, ?_⟩⟩⟩⟩⟩⟩
                intro k hk; cases hk
              · repeat' (first | exact StepsU.nil | refine StepsU.append ?_ ?_ | refine StepsU.cons ?_ ?_)
                all_goals first
                  | (refine .inl ⟨guard_none rfl, ?_⟩)
                  | (refine .inl ⟨guard_some rfl rfl (fun u w h => h), ?_⟩)
                  | (refine .inr ⟨guard_out rfl rfl (fun u w h e => by cases h.symm.trans e), fun w _ d hd => ?_⟩; cases hd; exact rfl)
                all_goals intro K aa w' hK hG H
                all_goals obtain ⟨hc, hf⟩ := bcell hG.out
                all_goals first
                  | (obtain ⟨h1, h2, h3, -⟩ := H; change aa.tmps.getD _ undef = _ at h1; have g1 := h1; rw [Array.getD_eq_getD_getElem?] at g1; change aa.tmps.getD _ undef = _ at h2; have g2 := h2; rw [Array.getD_eq_getD_getElem?] at g2; change aa.tmps.getD _ undef = _ at h3; have g3 := h3; rw [Array.getD_eq_getD_getElem?] at g3)
                  | (obtain ⟨h1, h2, -⟩ := H; change aa.tmps.getD _ undef = _ at h1; have g1 := h1; rw [Array.getD_eq_getD_getElem?] at g1; change aa.tmps.getD _ undef = _ at h2; have g2 := h2; rw [Array.getD_eq_getD_getElem?] at g2)
                  | (obtain ⟨h1, -⟩ := H; change aa.tmps.getD _ undef = _ at h1; have g1 := h1; rw [Array.getD_eq_getD_getElem?] at g1)
                  | skip
                all_goals go_simp
                all_goals first
                  | exact hK _ _ (fun d hd => by cases hd; exact rfl) hG (Below.refl _ _)
                  | (go_at_call 8; (with_reducible refine (rright_any n key a b c d _ HBT _).mono ?_); (rintro e w'' ⟨rfl, hb⟩; exact hK _ _ (fun d hd => by cases hd; exact rfl) (hid (hG.out.trans (hb.mono hG.out.size))) hb))
                  | skip
              · intro a w' hd hn hG hkeep hval
                exact hend2 a w' ⟨⟨hn, hd, hkeep 5 (by decide) (not_written (by kernel_rfl)), hkeep 7 (by decide) (not_written (by kernel_rfl)), hkeep 70 (by decide) (not_written (by kernel_rfl)), hkeep 71 (by decide) (not_written (by kernel_rfl)), hkeep 72 (by decide) (not_written (by kernel_rfl)), hval 317 (by kernel_rfl)⟩, hG⟩
            | true =>
              have hsb := HBT.out
              unfold setB nodeB keyB at hsb
              simp only [Bool.and_eq_true, decide_eq_true_eq] at hsb
              obtain ⟨zn, rfl⟩ : ∃ zn : Nat, n = zn := ⟨n.toNat, by omega⟩
              obtain ⟨zk, rfl⟩ : ∃ zk : Nat, key = zk := ⟨key.toNat, by omega⟩
              have hn8 : (zn : Int) < 8 := by omega
              have hk64 : (zk : Int) < 64 := by omega
              have HIZ : Hid (I64 (zn : Int) ∧ I64 (zk : Int)) := hid (by unfold I64; omega)
              obtain ⟨cc, hcc⟩ : ∃ cc, D5 zn zk = cc := ⟨_, rfl⟩
              have HCC := hid hcc
              have hne := neq_arr4 cc.1.1 cc.1.2 cc.2.1 cc.2.2
              obtain ⟨d0, d1, d2, d3⟩ := HP5.out.doc.q zn zk (by omega) (by omega)
              have lgd := HP5.out.doc.lt
              rw [hcc] at d0 d1 d2 d3
              clear hsb hcc
              refine region_und (T := fun k => ((slotsP1 tb5 g gb (.slice (some ⟨bq, oq, none⟩) ops.length c1) (ops.length : Int) (j : Int) zn zk a b c d zn zk cc).getD k .any).ok) (G := fun w' => Hid (Below w7.heap.size w7 w')) (bs := [5, 7, 11, 70, 71, 72]) 319 (by kernel_rfl) rfl (by kernel_rfl) (fun k u w w' => Ks.stable _ u w w') (hid (Below.refl _ _).drew) ?_ ?_ ?_
              · refine List.forall_mem_cons.2 ⟨rfl, List.forall_mem_cons.2 ⟨rfl, List.forall_mem_cons.2 ⟨rfl, List.forall_mem_cons.2 ⟨rfl, List.forall_mem_cons.2 ⟨rfl, List.forall_mem_cons.2 ⟨rfl, ?_⟩⟩⟩⟩⟩⟩
                intro k hk; cases hk
              · repeat' (first | exact StepsU.nil | refine StepsU.append ?_ ?_ | refine StepsU.cons ?_ ?_)
                all_goals first
                  | (refine .inl ⟨guard_none rfl, ?_⟩)
                  | (refine .inl ⟨guard_some rfl rfl (fun u w h => h), ?_⟩)
                  | (refine .inr ⟨guard_out rfl rfl (fun u w h e => by cases h.symm.trans e), fun w _ d hd => ?_⟩; cases hd; exact rfl)
                all_goals intro K aa w' hK hG H
                all_goals obtain ⟨hc, hf⟩ := bcell hG.out
                all_goals first
                  | (obtain ⟨h1, h2, h3, -⟩ := H; change aa.tmps.getD _ undef = _ at h1; have g1 := h1; rw [Array.getD_eq_getD_getElem?] at g1; change aa.tmps.getD _ undef = _ at h2; have g2 := h2; rw [Array.getD_eq_getD_getElem?] at g2; change aa.tmps.getD _ undef = _ at h3; have g3 := h3; rw [Array.getD_eq_getD_getElem?] at g3)
                  | (obtain ⟨h1, h2, -⟩ := H; change aa.tmps.getD _ undef = _ at h1; have g1 := h1; rw [Array.getD_eq_getD_getElem?] at g1; change aa.tmps.getD _ undef = _ at h2; have g2 := h2; rw [Array.getD_eq_getD_getElem?] at g2)
                  | (obtain ⟨h1, -⟩ := H; change aa.tmps.getD _ undef = _ at h1; have g1 := h1; rw [Array.getD_eq_getD_getElem?] at g1)
                  | skip
                all_goals go_simp
                all_goals first
                  | exact hK _ _ (fun d hd => by cases hd; exact rfl) hG (Below.refl _ _)
                  | (go_at_call 8; (with_reducible refine (rright_any (zn : Int) (zk : Int) a b c d _ HBT _).mono ?_); (rintro e w'' ⟨rfl, hb⟩; exact hK _ _ (fun d hd => by cases hd; exact rfl) (hid (hG.out.trans (hb.mono hG.out.size))) hb))
                  | (go_at_call 22; (with_reducible refine (get_any tb5 m5 D5 _ _ HIZ.out.1 HIZ.out.2 _ (HP5.out.tab.at_.below hG.out)).mono ?_); (rw [HCC.out]; rintro e w'' ⟨rfl, hb⟩; exact hK _ _ (fun d hd => by cases hd; exact rfl) (hid (hG.out.trans (hb.mono hG.out.size))) hb))
                  | skip
              · intro a w' hd hn hG hkeep hval
                exact hend2 a w' ⟨⟨hn, hd, hkeep 5 (by decide) (not_written (by kernel_rfl)), hkeep 7 (by decide) (not_written (by kernel_rfl)), hkeep 70 (by decide) (not_written (by kernel_rfl)), hkeep 71 (by decide) (not_written (by kernel_rfl)), hkeep 72 (by decide) (not_written (by kernel_rfl)), hval 317 (by kernel_rfl)⟩, hG⟩
        refine play_switch w g gb tb m D (.slice Ap p.length cp) (.slice Al l.length cl) (.slice (some ⟨bq, oq, none⟩) ops.length c1) (ops.length : Int) (j : Int) ok n key a b c d rk rx ry p l _ X ?_ ?_ _ _ _ _ ?_
        · exact hid ⟨HPX.out, HXB.out, by have := HPL.out.doc.lt; have := HGB.out; omega, by have := HPL.out.tab.at_.lt; have := HGB.out; omega, fun e => by have := HPL.out.tab.at_.mlt _ e; have := HGB.out; omega, HP.out, HLI.out, by show p.length ≤ 24; omega, by show l.length ≤ 20; omega, HOI2.out⟩
        · exact ⟨rfl, rfl, rfl, rfl, rfl, rfl, rfl, rfl, rfl⟩
        · exact hid hend
  · obtain rfl : j = ops.length := by omega
    go_wp2_with fail
    exact HK3.out _ _ _ _ ⟨rfl, rfl, rfl, rfl, rfl, rfl, rfl⟩ HPL.out.bel

end Go.Proofs.YtfhlpbjdcdagjaaGreatDoor

namespace Go.Proofs.YtfhlpbjdcdagjaaGreatDoor
open Go.RowKit Go.Lib Go.MapKept
open Go.Sort (grow)
set_option linter.unusedVariables false
set_option maxRecDepth 100000

/-- In the first loop. -/
def RIa (wS : World) (v1 v5 v6 v38 : Value) (g : Nat) (l : List Ent) (gk : Nat) (a : Act) (wr : World) : Prop :=
  ∃ j : Nat, FrA v1 v5 v6 g v38 (l.length : Int) (j : Int) a ∧ j ≤ l.length ∧ Hid ((l.take j).all entB = true) ∧ Hid (DTab wr g (setsT noTab (l.take j))) ∧ Hid (wS.grownBy wr (some g)) ∧ l.length - j ≤ gk

theorem all_take_end {l : List Ent} (h : (l.take l.length).all entB = true) : l.all entB = true := by rwa [List.take_length] at h

theorem all_take_one {l : List Ent} {j : Nat} (hj : j < l.length) (h : (l.take j).all entB = true) (hx : entB (l.getD j e0) = true) : (l.take (j + 1)).all entB = true := by
  rw [List.take_succ_eq_append_getElem hj, List.all_append, h]
  rw [List.getD_eq_getElem?_getD, List.getElem?_eq_getElem hj] at hx
  simpa using hx

theorem all_at {l : List Ent} {j : Nat} (hj : j < l.length) (h : l.all entB = true) : entB (l.getD j e0) = true := by
  rw [List.getD_eq_getElem?_getD, List.getElem?_eq_getElem hj]
  exact List.all_eq_true.1 h _ (List.getElem_mem hj)

set_option maxHeartbeats 4000000 in
theorem law_plays (v : Value) (l : List Ent) (vo : Value) (ops : List OpT) (w : World) (hv : SeIn w v l) (ho : SoIn w vo ops) (he : Env4 w) :
    Calls Tryz.prog 3 #[v, vo] w fun e w' => e = .returned (.bool true) ∧ Below w.heap.size w w' := by
  have HE := hid he; have HV := hid hv.row; have HI := hid hv.fits; have HO := hid ho.row; have HOI := hid ho.fits
  clear he
  obtain ⟨⟨A0, c0, rfl, z1, z2⟩, z3⟩ := hv
  obtain ⟨⟨A1, c1, rfl, z4, z5⟩, z6⟩ := ho
  clear z1 z2 z3 z4 z5 z6
  go_enter Tryz.func3, Tryz.ntmps3
  go_wp2_with fail
  refine (awake7 w HE.out).mono ?_
  rintro e w1 ⟨rfl, hb⟩
  have HB1 := hid hb
  clear hb
  by_cases hlen : 100 < l.length
  · have hlen' : (100 : Int) < (l.length : Int) := by omega
    go_wp2_with fail
    go_ret
    exact ⟨rfl, HB1.out⟩
  · have hlen' : ¬ (100 : Int) < (l.length : Int) := by omega
    by_cases hlo : 100 < ops.length
    · have hlo' : (100 : Int) < (ops.length : Int) := by omega
      go_wp2_with fail
      go_ret
      exact ⟨rfl, HB1.out⟩
    · have hlo' : ¬ (100 : Int) < (ops.length : Int) := by omega
      have HL : Hid (l.length ≤ 100 ∧ ops.length ≤ 100) := hid ⟨by omega, by omega⟩
      go_wp2_with fail
      refine (cnew_any _ l (by omega) HI.out w1 ((HV.out.below HB1.out).mono HB1.out.size)).mono ?_
      rintro e w2 ⟨hna, hb⟩
      have HB2 := hid (HB1.out.trans (hb.mono HB1.out.size))
      have HB12 := hid hb
      clear hb hlen' hlo' hlen hlo
      rcases hna with ⟨hall, rfl⟩ | ⟨hall, tb, m, rfl, ht⟩
      · have HALL := hid hall
        clear hall
        go_wp2_with fail
        obtain ⟨W3, hW3⟩ : ∃ W3, w2.alloc (.cells Tryz.zeroCells35 35) = W3 := ⟨_, rfl⟩
        obtain ⟨g, hg⟩ : ∃ g, w2.heap.size = g := ⟨_, rfl⟩
        have HD0 : Hid (DTab W3 g noTab) := hid (by rw [← hW3, ← hg]; exact table_zero w2 _)
        have HB23 : Hid (Below w2.heap.size w2 W3) := hid (by rw [← hW3]; exact (Below.refl _ w2).alloc (Nat.le_refl _) _)
        have HGG := hid hg
        have HB3 := hid (HB2.out.trans (HB23.out.mono HB2.out.size))
        rw [hW3, hg]
        clear hW3 hg
        refine wp_loop_ghost_k (RIa W3 (.slice A1 ops.length c1) (.pointer none) (.int .i64 1) (.slice A0 l.length c0) g l) 200 ⟨0, ⟨rfl, rfl, rfl, rfl, rfl, rfl, rfl, rfl, rfl⟩, Nat.zero_le _, hid (by simp), HD0, hid (turned_refl _ _), by have := HL.out.1; omega⟩ ?_
        intro gk act wr hinv J K2 hJ hK
        obtain ⟨j, hfr, hj, HA, HD, HGR, hgk⟩ := hinv
        have HK2 : Hid (∀ m a' w', m < gk → RIa W3 (.slice A1 ops.length c1) (.pointer none) (.int .i64 1) (.slice A0 l.length c0) g l m a' w' → K2 a' w') := hid (fun m a' w' hm hI => hK a' w' (Handed.intro m hm (hJ _ _ _ hI)))
        obtain ⟨u, rfl⟩ := hfr.open_
        have HBR : Hid (Below w.heap.size w wr) := hid (HB3.out.grown HGR.out HB3.out.size (fun k hk => by injection hk with hk; have := HGG.out; have := HB2.out.size; omega))
        clear hfr hK hJ
        by_cases hlt : j < l.length
        · obtain ⟨Aq, cq, hv, hcq, hrow⟩ := HV.out
          injection hv with e1 e2 e3
          obtain ⟨bq, oq, hA, hbq, hx⟩ := hrow (by omega)
          obtain rfl : A0 = some ⟨bq, oq, none⟩ := e1.trans hA
          subst e3
          obtain ⟨zn, zk, za, zb, zc, zd, hz⟩ := ent_of (x := l.getD j e0)
          obtain ⟨z0, z1, z2, z3, z4, z5⟩ := (hx j hlt).keep (w' := wr) fun o => HBR.out.cell (p := ⟨bq, o, none⟩) hbq
          rw [hz] at z0 z1 z2 z3 z4 z5
          simp only at z0 z1 z2 z3 z4 z5
          have HZ := hid hz
          have hwp1 := wrap_succ (t := j) (T := (j : Int)) rfl (by have := HL.out.1; omega)
          clear hrow hx hz hA e1 e2 hcq
          go_wp2_with fail
          obtain ⟨X, hX, HBX, HZB⟩ := box6 wr zn zk za zb zc zd 37
          have HBRX := hid (HBR.out.trans (HBX.out.mono HBR.out.size))
          have HDX := hid (HD.out.below HBX.out)
          have HGX := hid (turned_trans HGR.out (turned_below HBX.out (some g)))
          try rw [hX]
          clear hX z0 z1 z2 z3 z4 z5
          obtain ⟨β, hβ⟩ : ∃ β, setB zn zk ((za, zb), (zc, zd)) = β := ⟨_, rfl⟩
          have HBT := hid hβ
          obtain ⟨gz, hgz⟩ : ∃ gz, wr.heap.size = gz := ⟨_, rfl⟩
          have HGZ := hid hgz
          rw [hgz] at HZB
          try rw [hgz]
          have ⟨l1, f0, f1, f2, f3, f4, f5⟩ := HZB.out
          clear hβ hgz
          go_wp2_with fail
          refine (rright_any zn zk za zb zc zd β HBT X).mono ?_
          rintro e X1 ⟨rfl, hb⟩
          have HBRX1 := hid (HBRX.out.trans (hb.mono HBRX.out.size))
          have HDX1 := hid (HDX.out.below hb)
          have HGX1 := hid (turned_trans HGX.out (turned_below hb (some g)))
          have HZB1 := hid (HZB.out.below hb HZB.out.lt)
          clear hb l1 f0 f1 f2 f3 f4 f5
          cases β with
          | false =>
            go_wp2_with fail
            go_ret
            exact ⟨rfl, HBRX1.out⟩
          | true =>
            have hsb := HBT.out
            unfold setB nodeB keyB at hsb
            simp only [Bool.and_eq_true, decide_eq_true_eq] at hsb
            obtain ⟨nn, rfl⟩ : ∃ nn : Nat, zn = nn := ⟨zn.toNat, by omega⟩
            obtain ⟨kk, rfl⟩ : ∃ kk : Nat, zk = kk := ⟨zk.toNat, by omega⟩
            have hn8 : (nn : Int) < 8 := by omega
            have hk64 : (kk : Int) < 64 := by omega
            have HNK : Hid (nn < 8 ∧ kk < 64) := hid ⟨by omega, by omega⟩
            have HEN : Hid (entB (l.getD j e0) = true) := hid (by rw [HZ.out]; exact HBT.out)
            obtain ⟨q0, q1, q2, q3⟩ := HDX1.out.q nn kk HNK.out.1 HNK.out.2
            have qf := HDX1.out.f
            have lg := HDX1.out.lt
            have ⟨l1, f0, f1, f2, f3, f4, f5⟩ := HZB1.out
            clear hsb
            go_wp2_with fail
            refine cut_r (H := fun a w5 => FrA (.slice A1 ops.length c1) (.pointer none) (.int .i64 1) g (.slice (some ⟨bq, oq, none⟩) l.length c0) (l.length : Int) (j : Int) a ∧ w5 = (set4o X1 g (nn * 256 + kk * 4) za zb zc zd).drew) ?_ fun hend => ?_
            · rintro a w5 ⟨hfr, hw5⟩
              obtain ⟨u2, rfl⟩ := hfr.open_
              have HD5 : Hid (DTab w5 g (setsT noTab (l.take (j + 1)))) := hid (by rw [sets_take hlt HZ.out, hw5]; exact (HDX1.out.put HNK.out.1 HNK.out.2 za zb zc zd).keep rfl (Nat.le_refl _))
              have HG5 : Hid (W3.grownBy w5 (some g)) := hid (by rw [hw5]; exact turned_trans HGX1.out (turned_drew (set4o_grown _ _ _ _ _ _ _)))
              clear hfr hw5 q0 q1 q2 q3 qf lg l1 f0 f1 f2 f3 f4 f5
              go_wp2_with fail
              exact HK2.out (l.length - (j + 1)) _ _ (go_down hlt hgk) ⟨j + 1, ⟨rfl, rfl, rfl, rfl, rfl, rfl, rfl, rfl, by first | exact congrArg (Value.int .i64) hwp1 | rfl⟩, hlt, hid (all_take_one hlt HA.out HEN.out), HD5, HG5, Nat.le_refl _⟩
            · go_region_law (fail)
              all_goals exact hend _ _ ⟨⟨rfl, rfl, rfl, rfl, rfl, rfl, rfl, rfl, rfl⟩, rfl⟩
        · obtain rfl : j = l.length := by omega
          have := all_take_end HA.out
          rw [HALL.out] at this
          cases this
      · have HALL := hid hall
        have HT := hid ht
        clear hall ht
        go_wp2_with fail
        obtain ⟨W3, hW3⟩ : ∃ W3, w2.alloc (.cells Tryz.zeroCells35 35) = W3 := ⟨_, rfl⟩
        obtain ⟨g, hg⟩ : ∃ g, w2.heap.size = g := ⟨_, rfl⟩
        have HD0 : Hid (DTab W3 g noTab) := hid (by rw [← hW3, ← hg]; exact table_zero w2 _)
        have HB23 : Hid (Below w2.heap.size w2 W3) := hid (by rw [← hW3]; exact (Below.refl _ w2).alloc (Nat.le_refl _) _)
        have HGG := hid hg
        have HB3 := hid (HB2.out.trans (HB23.out.mono HB2.out.size))
        rw [hW3, hg]
        clear hW3 hg
        refine wp_loop_ghost_k (RIa W3 (.slice A1 ops.length c1) (tabV tb) (.int .i64 0) (.slice A0 l.length c0) g l) 200 ⟨0, ⟨rfl, rfl, rfl, rfl, rfl, rfl, rfl, rfl, rfl⟩, Nat.zero_le _, hid (by simp), HD0, hid (turned_refl _ _), by have := HL.out.1; omega⟩ ?_
        intro gk act wr hinv J K2 hJ hK
        obtain ⟨j, hfr, hj, HA, HD, HGR, hgk⟩ := hinv
        have HK2 : Hid (∀ m a' w', m < gk → RIa W3 (.slice A1 ops.length c1) (tabV tb) (.int .i64 0) (.slice A0 l.length c0) g l m a' w' → K2 a' w') := hid (fun m a' w' hm hI => hK a' w' (Handed.intro m hm (hJ _ _ _ hI)))
        obtain ⟨u, rfl⟩ := hfr.open_
        have HBR : Hid (Below w.heap.size w wr) := hid (HB3.out.grown HGR.out HB3.out.size (fun k hk => by injection hk with hk; have := HGG.out; have := HB2.out.size; omega))
        clear hfr hK hJ
        by_cases hlt : j < l.length
        · obtain ⟨Aq, cq, hv, hcq, hrow⟩ := HV.out
          injection hv with e1 e2 e3
          obtain ⟨bq, oq, hA, hbq, hx⟩ := hrow (by omega)
          obtain rfl : A0 = some ⟨bq, oq, none⟩ := e1.trans hA
          subst e3
          obtain ⟨zn, zk, za, zb, zc, zd, hz⟩ := ent_of (x := l.getD j e0)
          obtain ⟨z0, z1, z2, z3, z4, z5⟩ := (hx j hlt).keep (w' := wr) fun o => HBR.out.cell (p := ⟨bq, o, none⟩) hbq
          rw [hz] at z0 z1 z2 z3 z4 z5
          simp only at z0 z1 z2 z3 z4 z5
          have HZ := hid hz
          have hwp1 := wrap_succ (t := j) (T := (j : Int)) rfl (by have := HL.out.1; omega)
          clear hrow hx hz hA e1 e2 hcq
          go_wp2_with fail
          obtain ⟨X, hX, HBX, HZB⟩ := box6 wr zn zk za zb zc zd 37
          have HBRX := hid (HBR.out.trans (HBX.out.mono HBR.out.size))
          have HDX := hid (HD.out.below HBX.out)
          have HGX := hid (turned_trans HGR.out (turned_below HBX.out (some g)))
          try rw [hX]
          clear hX z0 z1 z2 z3 z4 z5
          obtain ⟨β, hβ⟩ : ∃ β, setB zn zk ((za, zb), (zc, zd)) = β := ⟨_, rfl⟩
          have HBT := hid hβ
          obtain ⟨gz, hgz⟩ : ∃ gz, wr.heap.size = gz := ⟨_, rfl⟩
          have HGZ := hid hgz
          rw [hgz] at HZB
          try rw [hgz]
          have ⟨l1, f0, f1, f2, f3, f4, f5⟩ := HZB.out
          clear hβ hgz
          go_wp2_with fail
          refine (rright_any zn zk za zb zc zd β HBT X).mono ?_
          rintro e X1 ⟨rfl, hb⟩
          have HBRX1 := hid (HBRX.out.trans (hb.mono HBRX.out.size))
          have HDX1 := hid (HDX.out.below hb)
          have HGX1 := hid (turned_trans HGX.out (turned_below hb (some g)))
          have HZB1 := hid (HZB.out.below hb HZB.out.lt)
          clear hb l1 f0 f1 f2 f3 f4 f5
          cases β with
          | false =>
            have := all_at hlt HALL.out
            rw [HZ.out] at this
            exact absurd (this.symm.trans HBT.out) (by decide)
          | true =>
            have hsb := HBT.out
            unfold setB nodeB keyB at hsb
            simp only [Bool.and_eq_true, decide_eq_true_eq] at hsb
            obtain ⟨nn, rfl⟩ : ∃ nn : Nat, zn = nn := ⟨zn.toNat, by omega⟩
            obtain ⟨kk, rfl⟩ : ∃ kk : Nat, zk = kk := ⟨zk.toNat, by omega⟩
            have hn8 : (nn : Int) < 8 := by omega
            have hk64 : (kk : Int) < 64 := by omega
            have HNK : Hid (nn < 8 ∧ kk < 64) := hid ⟨by omega, by omega⟩
            have HEN : Hid (entB (l.getD j e0) = true) := hid (by rw [HZ.out]; exact HBT.out)
            obtain ⟨q0, q1, q2, q3⟩ := HDX1.out.q nn kk HNK.out.1 HNK.out.2
            have qf := HDX1.out.f
            have lg := HDX1.out.lt
            have ⟨l1, f0, f1, f2, f3, f4, f5⟩ := HZB1.out
            clear hsb
            go_wp2_with fail
            refine cut_r (H := fun a w5 => FrA (.slice A1 ops.length c1) (tabV tb) (.int .i64 0) g (.slice (some ⟨bq, oq, none⟩) l.length c0) (l.length : Int) (j : Int) a ∧ w5 = (set4o X1 g (nn * 256 + kk * 4) za zb zc zd).drew) ?_ fun hend => ?_
            · rintro a w5 ⟨hfr, hw5⟩
              obtain ⟨u2, rfl⟩ := hfr.open_
              have HD5 : Hid (DTab w5 g (setsT noTab (l.take (j + 1)))) := hid (by rw [sets_take hlt HZ.out, hw5]; exact (HDX1.out.put HNK.out.1 HNK.out.2 za zb zc zd).keep rfl (Nat.le_refl _))
              have HG5 : Hid (W3.grownBy w5 (some g)) := hid (by rw [hw5]; exact turned_trans HGX1.out (turned_drew (set4o_grown _ _ _ _ _ _ _)))
              clear hfr hw5 q0 q1 q2 q3 qf lg l1 f0 f1 f2 f3 f4 f5
              go_wp2_with fail
              exact HK2.out (l.length - (j + 1)) _ _ (go_down hlt hgk) ⟨j + 1, ⟨rfl, rfl, rfl, rfl, rfl, rfl, rfl, rfl, by first | exact congrArg (Value.int .i64) hwp1 | rfl⟩, hlt, hid (all_take_one hlt HA.out HEN.out), HD5, HG5, Nat.le_refl _⟩
            · go_region_law (fail)
              all_goals exact hend _ _ ⟨⟨rfl, rfl, rfl, rfl, rfl, rfl, rfl, rfl, rfl⟩, rfl⟩
        · obtain rfl : j = l.length := by omega
          rw [List.take_length] at HD
          have HPL : Hid (PlS w g tb m (setsT noTab l) (setsT noTab l) wr) := hid (by
            have h1 := (HT.out.below HB23.out).mono (B' := w.heap.size) HB1.out.size
            have h2 := HT.out.at_.lt
            have h3 := HT.out.at_.mlt
            have h4 := HGG.out
            have hng : tb ≠ g := by omega
            have hmg : m ≠ some g := fun e => by have := h3 g e; omega
            exact ⟨⟨h1.at_.grown HGR.out hng.symm hmg, h1.le, h1.mle⟩, HD.out, hng, hmg, by have := HB2.out.size; omega, HBR.out⟩)
          go_wp2_with fail
          refine wp_loop_ghost_k (RIb w g (.slice A1 ops.length c1) ops.length) 200 ⟨0, tb, m, setsT noTab l, ⟨rfl, rfl, rfl, rfl, rfl, rfl, rfl⟩, Nat.zero_le _, HPL, by have := HL.out.2; omega⟩ ?_
          intro gk act wr hinv J K2 hJ hK
          have HK2 : Hid (∀ m' a' w', m' < gk → RIb w g (.slice A1 ops.length c1) ops.length m' a' w' → K2 a' w') := hid (fun m' a' w' hm hI => hK a' w' (Handed.intro m' hm (hJ _ _ _ hI)))
          refine play_round w g A1 c1 ops HL.out.2 HO HOI gk act wr hinv K2 _ HK2 (hid ?_)
          intro v5' i' a' w' hfr' hb'
          obtain ⟨u9, rfl⟩ := hfr'.open_
          have HBF := hid hb'
          clear hfr' hb'
          go_wp2_with fail
          go_ret
          exact ⟨rfl, HBF.out⟩

end Go.Proofs.YtfhlpbjdcdagjaaGreatDoor
