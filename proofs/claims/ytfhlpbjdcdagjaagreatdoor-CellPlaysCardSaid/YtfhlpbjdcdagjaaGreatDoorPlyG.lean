/- Layer 7, cell: CellPlays: Copy; nothing. -/
import Derived.Test.YtfhlpbjdcdagjaaGreatDoorHbd
namespace Go.Proofs.YtfhlpbjdcdagjaaGreatDoor
open Go.RowKit Go.Lib Go.MapKept
open Go.Sort (grow)
set_option linter.unusedVariables false
set_option maxRecDepth 100000

theorem PlS.other {w wr w' : World} {g tb r : Nat} {m : Option Nat} {Dt Dd : CTab} (h : PlS w g tb m Dt Dd wr) (hgr : wr.grownBy w' (some r)) (h1 : r ≠ tb) (h2 : m ≠ some r) (h3 : r ≠ g) (h4 : w.heap.size ≤ r) : PlS w g tb m Dt Dd w' :=
  ⟨⟨h.tab.at_.grown hgr h1 h2, h.tab.le, h.tab.mle⟩, h.doc.grown hgr h3, h.ng, h.mg, h.hg, h.bel.grown hgr h.bel.size (fun k hk => by injection hk with hk; omega)⟩

theorem eight (w : World) : Hid (SlI (w.alloc (.cells #[.int .i64 0, .int .i64 1, .int .i64 2, .int .i64 3, .int .i64 4, .int .i64 5, .int .i64 6, .int .i64 7] 3)) (w.heap.size + 1) .i64 (.slice (some ⟨w.heap.size, 0, none⟩) 8 8) [0, 1, 2, 3, 4, 5, 6, 7]) :=
  hid (SlI.new w .i64 [0, 1, 2, 3, 4, 5, 6, 7] 3)

set_option maxHeartbeats 4000000 in
theorem play_n (w : World) (g gb tb : Nat) (m : Option Nat) (D : CTab) (vp vl v70 : Value) (N i k n key xa xb xc xd rk rx ry : Int) (p : List (Int × Int)) (l : List Int) (act : Act) (wX : World) (h0 : k ≠ 0) (h1 : k ≠ 1) (h2 : k ≠ 2) (h3 : k ≠ 3) (h4 : k ≠ 4) (HI : Hid (PlyI w g gb tb m D vp vl ⟨k, ((n, key), ((xa, xb), (xc, xd))), p, (rk, (rx, ry)), l⟩ wX)) (hfr : FrC (tabV tb) g gb v70 N i k act)
    (KA K4 K2 K3 : Act → World → Prop) (HE : Hid (∀ a w', PlyH w g gb v70 N i k vp vl ⟨k, ((n, key), ((xa, xb), (xc, xd))), p, (rk, (rx, ry)), l⟩ a w' → KA a w')) :
    (plyCod 22).wp Tryz.prog (Exit.inBlock 4 (Exit.then KA (Exit.inBlock 3 (Exit.then K4 (Exit.then K2 (Exit.inBlock 2 (Exit.then K3 (bodyPost Tryz.prog Tryz.f3 (fun e w' => e = .returned (.bool true) ∧ Below w.heap.size w w'))))))))) act wX := by
  obtain ⟨u, rfl⟩ := hfr.open_
  clear hfr
  conv => arg 2; whnf
  have e0 : (k == 0) = false := by simpa using h0
  have e1 : (k == 1) = false := by simpa using h1
  have e2 : (k == 2) = false := by simpa using h2
  have e3 : (k == 3) = false := by simpa using h3
  have e4 : (k == 4) = false := by simpa using h4
  go_wp2_with fail
  exact HE.out _ _ ⟨tb, m, D, ⟨rfl, rfl, rfl, rfl, rfl, rfl, rfl, rfl, rfl⟩, hid HI.out.pl, hid HI.out.bx⟩

set_option maxHeartbeats 4000000 in
theorem play_4 (w : World) (g gb tb : Nat) (m : Option Nat) (D : CTab) (vp vl v70 : Value) (N i n key xa xb xc xd rk rx ry : Int) (p : List (Int × Int)) (l : List Int) (act : Act) (wX : World) (HI : Hid (PlyI w g gb tb m D vp vl ⟨4, ((n, key), ((xa, xb), (xc, xd))), p, (rk, (rx, ry)), l⟩ wX)) (hfr : FrC (tabV tb) g gb v70 N i 4 act)
    (KA K4 K2 K3 : Act → World → Prop) (HE : Hid (∀ a w', PlyH w g gb v70 N i 4 vp vl ⟨4, ((n, key), ((xa, xb), (xc, xd))), p, (rk, (rx, ry)), l⟩ a w' → KA a w')) :
    (plyCod 22).wp Tryz.prog (Exit.inBlock 4 (Exit.then KA (Exit.inBlock 3 (Exit.then K4 (Exit.then K2 (Exit.inBlock 2 (Exit.then K3 (bodyPost Tryz.prog Tryz.f3 (fun e w' => e = .returned (.bool true) ∧ Below w.heap.size w w'))))))))) act wX := by
  obtain ⟨u, rfl⟩ := hfr.open_
  clear hfr
  conv => arg 2; whnf
  obtain ⟨lb, b0, b1, b2, -⟩ := HI.out.bx
  simp only at b1 b2
  have HFT : Hid (foot tb m < wX.heap.size ∧ w.heap.size ≤ foot tb m) := hid ⟨by
    cases m with
    | none => exact HI.out.pl.tab.at_.lt
    | some b => exact HI.out.pl.tab.at_.mlt b rfl, HI.out.pl.tab.foot_le⟩
  go_wp2_with fail
  refine (copy_any tb m D wX HI.out.pl.tab.at_).mono ?_
  rintro e w1 ⟨tb', m', rfl, ht, hb⟩
  have HN1 := hid (HI.out.pl.copy ht hb)
  have HT1 := hid (HI.out.pl.tab.at_.below hb)
  have HX1 := hid (HI.out.bx.below hb)
  have HNE : Hid (foot tb m ≠ tb' ∧ m' ≠ some (foot tb m)) := hid (by
    have h1 := ht.le
    have h2 := HFT.out.1
    refine ⟨by omega, fun e => ?_⟩
    have := ht.mle _ e
    omega)
  clear ht hb lb b0 b1 b2
  obtain ⟨lb, b0, b1, b2, -⟩ := HX1.out
  simp only at b1 b2
  go_wp2_with fail
  obtain ⟨W2, hW2, HB2, HS2⟩ : ∃ W2, w1.alloc (.cells #[.int .i64 0, .int .i64 1, .int .i64 2, .int .i64 3, .int .i64 4, .int .i64 5, .int .i64 6, .int .i64 7] 3) = W2 ∧ Hid (Below w1.heap.size w1 W2) ∧ Hid (SlI W2 W2.heap.size .i64 (.slice (some ⟨w1.heap.size, 0, none⟩) 8 8) [0, 1, 2, 3, 4, 5, 6, 7]) :=
    ⟨_, rfl, hid ((Below.refl _ w1).alloc (Nat.le_refl _) _), hid (by rw [World.size_alloc]; exact (eight w1).out)⟩
  try rw [hW2]
  clear hW2
  have HN2 := hid (HN1.out.below HB2.out)
  have HT2 := hid (HT1.out.below HB2.out)
  have HX2 := hid (HX1.out.below HB2.out)
  refine (drop_any tb m D n _ [0, 1, 2, 3, 4, 5, 6, 7] (by decide) W2 HT2.out HS2.out).mono ?_
  rintro e w3 ⟨rfl, ht, hgr⟩
  have HN3 := hid (HN2.out.other hgr HNE.out.1 HNE.out.2 HI.out.pl.foot_ne HFT.out.2)
  have HX3 := hid (HX2.out.grown hgr HI.out.foot_ne)
  have HT3 := hid ht
  clear ht hgr lb b0 b1 b2
  have I0 : I64 0 := ⟨by decide, by decide⟩
  have I9 : I64 9 := ⟨by decide, by decide⟩
  have H09 := hid (And.intro I0 I9)
  clear I0 I9
  go_wp2_with fail
  refine (set_any tb m _ 0 0 9 0 0 0 H09.out.1 H09.out.1 ⟨H09.out.2, H09.out.1⟩ ⟨H09.out.1, H09.out.1⟩ w3 HT3.out).mono ?_
  rintro e w4 hp
  rcases hp with ⟨_, rfl, hb⟩ | ⟨_, rfl, m4, _, hgr, _⟩
  · have HN4 := hid (HN3.out.below hb)
    have HX4 := hid (HX3.out.below hb)
    clear hb
    go_wp2_with fail
    exact HE.out _ _ ⟨tb', m', D, ⟨rfl, rfl, rfl, rfl, rfl, rfl, rfl, rfl, rfl⟩, HN4, HX4⟩
  · have HN4 := hid (HN3.out.other hgr HNE.out.1 HNE.out.2 HI.out.pl.foot_ne HFT.out.2)
    have HX4 := hid (HX3.out.grown hgr HI.out.foot_ne)
    clear hgr
    go_wp2_with fail
    exact HE.out _ _ ⟨tb', m', D, ⟨rfl, rfl, rfl, rfl, rfl, rfl, rfl, rfl, rfl⟩, HN4, HX4⟩

end Go.Proofs.YtfhlpbjdcdagjaaGreatDoor
