/- Layer 7, cell: Run. -/
import Derived.Test.YtfhlpbjdcdagjaaGreatDoorHaq
namespace Go.Proofs.YtfhlpbjdcdagjaaGreatDoor
open Go.RowKit Go.Lib Go.MapKept
set_option linter.unusedVariables false
set_option maxRecDepth 100000

def encR (x : Int × (Int × Int)) : List Value := [.int .i64 x.1, .int .i64 x.2.1, .int .i64 x.2.2]

def recCells (L : List (Int × (Int × Int))) : List Value := L.flatMap encR

theorem recCells_snoc (L : List (Int × (Int × Int))) (x : Int × (Int × Int)) : recCells (L ++ [x]) = recCells L ++ encR x := by simp [recCells]

theorem recCells_len : ∀ L : List (Int × (Int × Int)), (recCells L).length = L.length * 3
  | [] => rfl
  | x :: L => by
    show (encR x ++ recCells L).length = _
    rw [List.length_append, recCells_len L, List.length_cons]
    show 3 + _ = _
    omega

theorem encR_one (x : Int × (Int × Int)) : ∀ v ∈ encR x, v.oneCell' = true := by
  intro v hv
  simp only [encR, List.mem_cons, List.not_mem_nil, or_false] at hv
  rcases hv with rfl | rfl | rfl <;> rfl

theorem new_rec (w : World) (k x y : Int) (t : TypeId) : ∀ (j : Nat) (u : Value), (encR (k, (x, y)))[j]? = some u → (w.alloc (.cells #[.int .i64 k, .int .i64 x, .int .i64 y] t)).cell? ((⟨w.heap.size, 0, none⟩ : Addr).add j) = some u :=
  fun j u h => new_cells w #[.int .i64 k, .int .i64 x, .int .i64 y] t j u (by rw [← Array.getElem?_toList]; exact h)

theorem recInfo : (Tryz.prog.info? 41).map (fun i => (i.zero, i.size, i.bytes)) = some (some (.agg #[.int .i64 0, .int .i64 0, .int .i64 0]), 3, 24) := by kernel_rfl

/-- What Run makes of a table. -/
def RunT (D : CTab) (n k : Int) (q : RunQ) : CTab := setT D n k ((q.a, q.b), (q.c, q.d))

/-- What Run answers. -/
def CRunPost (w : World) (tb : Nat) (m : Option Nat) (D : CTab) (n k x y : Int) (l : List (Int × Int)) (e : Ending) (w' : World) : Prop :=
  ((nodeB n && (keyB k && rgtB (x, y))) = false ∧ e = .returned (.tuple #[.slice none 0 0, .int .i64 1]) ∧ Below w.heap.size w w') ∨
  ((nodeB n && (keyB k && rgtB (x, y))) = true ∧ (chk l).isSome = false ∧ e = .returned (.tuple #[.slice none 0 0, .int .i64 9]) ∧ Below w.heap.size w w') ∨
  ((nodeB n && (keyB k && rgtB (x, y))) = true ∧ (chk l).isSome = true ∧ ∃ A c m' B, e = .returned (.tuple #[.slice A (runQ l (x, y) (D n k).1 (D n k).2).out.length c, .int .i64 0]) ∧ TabAt w' tb m' (RunT D n k (runQ l (x, y) (D n k).1 (D n k).2)) ∧ w.grownBy w' (some (foot tb m)) ∧
    (m' = m ∨ (m = none ∧ ∃ b, m' = some b ∧ w.heap.size ≤ b)) ∧ w.heap.size ≤ B ∧ tb < B ∧ (∀ b, m' = some b → b < B) ∧
    w'.ownsRow B 41 3 (.slice A (runQ l (x, y) (D n k).1 (D n k).2).out.length c) (runQ l (x, y) (D n k).1 (D n k).2).out.length (recCells ((runQ l (x, y) (D n k).1 (D n k).2).out.map fun v => (k, v))))

def slotsR (vp : Value) (tb g : Nat) (n k x y : Int) (c : C4) (e : Int) : List Kr :=
  [.is (tabV tb), .is (.int .i64 n), .is vp, .any, .any, .any, .any, .is (.pointer (some ⟨g, 0, none⟩)), .any, .any, .box, .is (.int .i64 e)] ++ List.replicate 15 .any ++
  [.res, .is vp, .is (.pointer (some ⟨g, 1, none⟩)), .is (val x y), .is (tabV tb), .is (.int .i64 n), .is (.pointer (some ⟨g, 0, none⟩)), .is (.int .i64 k), .is (.agg #[.int .i64 c.1.1, .int .i64 c.1.2, .int .i64 c.2.1, .int .i64 c.2.2]), .res, .res0, .is (.int .i64 e)]

theorem run_right {l : List (Int × Int)} {v c0 c1 : Int × Int} (h : (chk l).isSome = true) (hv : rgtB v = true) (h0 : rgtB c0 = true) (h1 : rgtB c1 = true) : (runQ l v c0 c1).out.length ≤ 4 ∧ rgtB ((runQ l v c0 c1).a, (runQ l v c0 c1).b) = true ∧ rgtB ((runQ l v c0 c1).c, (runQ l v c0 c1).d) = true ∧ (runQ l v c0 c1).e = 0 := by
  have := run_known h (by rw [h0, h1]; simp [hv]) (rfl : eachS l [v] ⟨[], [], c0, c1, 0⟩ = _)
  obtain ⟨_, _, n3, _, n5, n6, _⟩ := this
  unfold runQ
  rw [if_pos h]
  exact ⟨n3, n5, n6, rfl⟩

set_option maxHeartbeats 8000000 in
theorem crun_any (tb : Nat) (m : Option Nat) (D : CTab) (n k x y : Int) (hn : I64 n) (hk : I64 k) (hxy : I64 x ∧ I64 y) (vp : Value) (l : List (Int × Int)) (hl : l.length ≤ 1000000000000) (w : World) (h : TabAt w tb m D) (hv : SlV w w.heap.size vp l) :
    Calls Tryz.prog 10 #[tabV tb, .int .i64 n, vp, recV k x y] w (CRunPost w tb m D n k x y l) := by
  have HT := hid h; have HV := hid hv; have HN := hid hn; have HK := hid hk; have HXY := hid hxy; have HL := hid hl
  obtain ⟨A0, cc0, rfl, _, _⟩ := hv
  clear h hn hk hxy hl
  obtain ⟨W, hW, HB, HX⟩ := box3 w k x y 41
  have ⟨_, q0, q1, q2⟩ := HX.out
  obtain ⟨vp, hvp⟩ : ∃ v, Value.slice A0 l.length cc0 = v := ⟨_, rfl⟩
  rw [hvp] at HV ⊢
  clear hvp
  go_enter Tryz.func10, Tryz.ntmps10
  go_wp2_with fail
  clear hW
  refine (inode_any n W).mono ?_
  rintro e w1 ⟨rfl, rfl⟩
  obtain ⟨β1, h1⟩ : ∃ β, nodeB n = β := ⟨_, rfl⟩
  rw [h1]
  have H1 := hid h1
  clear h1
  cases β1 with
  | false =>
    go_wp2_with fail
    go_ret2
    exact .inl ⟨by rw [H1.out]; rfl, rfl, HB.out⟩
  | true =>
    go_wp2_with fail
    refine (cright_rec k x y HXY.out.1 HXY.out.2 w1).mono ?_
    rintro e w2 ⟨rfl, hb⟩
    obtain ⟨β2, h2⟩ : ∃ β, (keyB k && rgtB (x, y)) = β := ⟨_, rfl⟩
    rw [h2]
    have H2 := hid h2
    have HB2 := hid (HB.out.trans (hb.mono HB.out.size))
    have HX2 := hid (HX.out.below hb)
    clear h2 hb q0 q1 q2
    cases β2 with
    | false =>
      go_wp2_with fail
      go_ret2
      exact .inl ⟨by rw [H1.out, H2.out]; rfl, rfl, HB2.out⟩
    | true =>
      have hkr : keyB k = true ∧ rgtB (x, y) = true := by have := H2.out; rw [Bool.and_eq_true] at this; exact this
      have HKR := hid hkr
      have HOK : Hid ((nodeB n && (keyB k && rgtB (x, y))) = true) := hid (by rw [H1.out, H2.out]; rfl)
      have hcr := HT.out.ok.right n k
      have hcr' : rgtB (D n k).1 = true ∧ rgtB (D n k).2 = true := by unfold rgt4 at hcr; rw [Bool.and_eq_true] at hcr; exact hcr
      have HCR := hid hcr'
      have HWC := hid (rgt4_wf hcr)
      obtain ⟨q, hq⟩ : ∃ q, runQ l (x, y) (D n k).1 (D n k).2 = q := ⟨_, rfl⟩
      have HQ := hid hq
      have HT2 := hid (HT.out.below HB2.out)
      have HV2 := hid ((HV.out.below HB2.out).mono HB2.out.size)
      obtain ⟨c, hc⟩ : ∃ c, D n k = c := ⟨_, rfl⟩
      have HC := hid hc
      obtain ⟨g, hg⟩ : ∃ g, w.heap.size = g := ⟨_, rfl⟩
      have HGG := hid hg
      rw [hg] at HX2
      have ⟨lt0, q0, q1, q2⟩ := HX2.out
      have hnk := And.intro HN.out HK.out
      have HNK := hid hnk
      have HWD : Hid ((I64 c.1.1 ∧ I64 c.1.2) ∧ (I64 c.2.1 ∧ I64 c.2.2)) := hid (by rw [← hc]; exact HWC.out)
      have HEQ : Hid (∀ (B : Nat) (w : World) (r : Value), EachIs l (c.1.1, c.1.2) (c.2.1, c.2.2) [(x, y)] B w r → ∃ vo, r = .tuple #[resV vo q.a q.b q.c q.d q.n, .int .i64 q.e] ∧ w.ownsRow B 31 2 vo q.out.length (insCells q.out)) := hid (fun B w r hr => by
        rw [hc] at hq hcr'
        exact eachis_q hr hkr.2 hcr'.1 hcr'.2 hq)
      clear hkr hcr hcr' hq hc hnk H1 H2
      rw [hg]
      clear hg
      go_wp2_with fail
      refine region_listed (R := RunR) (T := fun j => ((slotsR vp tb g n k x y c q.e).getD j .any).ok w2.heap.size q) (G := fun w' => Hid (Below w2.heap.size w2 w')) (J := RunJ w2.heap.size q) (bs := [0, 1, 2, 7]) 65 (by kernel_rfl) rfl (by kernel_rfl) (fun k u w w' => Kr.stable _ q _ u w w') (hid (Below.refl _ _).drew) (fun hl => by simp at hl) ?_ ?_ ?_
      · refine List.forall_mem_cons.2 ⟨rfl, List.forall_mem_cons.2 ⟨rfl, List.forall_mem_cons.2 ⟨rfl, List.forall_mem_cons.2 ⟨rfl, ?_⟩⟩⟩⟩
        intro k hk; cases hk
      · repeat' (first | exact StepsL.nil | refine StepsL.cons ?_ ?_)
        all_goals refine ⟨guard_none rfl, ?_⟩
        all_goals intro listed K a w' hK hcl hlsz hlf hG hJ H
        all_goals obtain ⟨hc, hf⟩ := bcell hG.out
        all_goals first
          | (obtain ⟨⟨gb, c0, c1, c2, c3, c4, c5, h1, hgN, hblk⟩, ⟨vo, h2, hown⟩, -⟩ := H; change a.tmps.getD _ undef = _ at h1; have g1 := h1; rw [Array.getD_eq_getD_getElem?] at g1; change a.tmps.getD _ undef = _ at h2; have g2 := h2; rw [Array.getD_eq_getD_getElem?] at g2; have ⟨lg, z0, z1, z2, z3, z4, z5, zf⟩ := res_cells hblk; obtain ⟨Av, cv, rfl⟩ := own_form hown)
          | (obtain ⟨⟨vo, h1, hown⟩, -⟩ := H; change a.tmps.getD _ undef = _ at h1; have g1 := h1; rw [Array.getD_eq_getD_getElem?] at g1)
          | (obtain ⟨h1, h2, h3, -⟩ := H; change a.tmps.getD _ undef = _ at h1; have g1 := h1; rw [Array.getD_eq_getD_getElem?] at g1; change a.tmps.getD _ undef = _ at h2; have g2 := h2; rw [Array.getD_eq_getD_getElem?] at g2; change a.tmps.getD _ undef = _ at h3; have g3 := h3; rw [Array.getD_eq_getD_getElem?] at g3)
          | (obtain ⟨h1, -⟩ := H; change a.tmps.getD _ undef = _ at h1; have g1 := h1; rw [Array.getD_eq_getD_getElem?] at g1)
          | skip
        all_goals go_simp
        all_goals first
          | (go_at_call 22; refine (get_any tb m D n k HNK.out.1 HNK.out.2 _ (HT2.out.below hG.out)).mono ?_; (rw [HC.out]; rintro e w'' ⟨rfl, hb⟩; exact hK _ _ (fun d hd => by cases hd; exact rfl) (hid (hG.out.trans (hb.mono hG.out.size))) (.inl hb) (hJ.keep (by decide) (by simp) hb)))
          | (go_at_call 29; refine (vrun_any vp l HL.out x y c.1.1 c.1.2 c.2.1 c.2.2 HXY.out HWD.out.1 HWD.out.2 _ ((HV2.out.below hG.out).mono hG.out.size)).mono ?_; (rintro e w'' ⟨⟨r, rfl, hr⟩, hb⟩; obtain ⟨vo, rfl, ho⟩ := HEQ.out _ _ _ hr; exact hK _ _ (fun d hd => by cases hd; exact ⟨vo, rfl, own_mono ho hG.out.size⟩) (hid (hG.out.trans (hb.mono hG.out.size))) (.inl hb) (hJ.keep (by decide) (by simp) hb)))
          | exact hK undef (set6 w' gb (.slice Av q.out.length cv) q.a q.b q.c q.d q.n) (fun d hd => by cases hd) (hid (hG.out.grown (set6_grown w' gb (.slice Av q.out.length cv) q.a q.b q.c q.d q.n) hG.out.size (fun j hj => by injection hj with hj; omega))) (.inr ⟨gb, c0, c1, c2, c3, c4, c5, _, _, _, _, _, _, hblk, set6_block hblk (.slice Av q.out.length cv) q.a q.b q.c q.d q.n, set6_grown w' gb (.slice Av q.out.length cv) q.a q.b q.c q.d q.n⟩) (fun _ => ⟨gb, .slice Av q.out.length cv, h1, hgN, set6_block hblk (.slice Av q.out.length cv) q.a q.b q.c q.d q.n, own_typed hown hblk (by decide) (set6_grown w' gb (.slice Av q.out.length cv) q.a q.b q.c q.d q.n)⟩)
          | exact hK _ _ (fun d hd => by cases hd; exact rfl) hG (.inl (Below.refl _ _)) (hJ.keep (by decide) (by simp) (Below.refl _ _))
          | exact hK _ _ (fun d hd => by cases hd; exact ⟨vo, rfl, hown⟩) hG (.inl (Below.refl _ _)) (hJ.keep (by decide) (by simp) (Below.refl _ _))
          | exact hK _ _ (fun d hd => by cases hd; exact ⟨_, _, _, _, _, _, _, rfl, hG.out.size, heap_alloc_new _ _⟩) (hid (hG.out.alloc hG.out.size _)) (.inl ((Below.refl _ _).alloc (Nat.le_refl _) _)) (RunJ.first (by decide) (hcl.ahead (j := 13) (i := 12) (by kernel_rfl) hlf))
          | skip
      · intro listed a w' hd hn hG hall hJ hkeep hval
        have h0 : a.tmps.getD 0 undef = _ := hkeep 0 (by decide) (not_written (by kernel_rfl))
        have h1 : a.tmps.getD 1 undef = _ := hkeep 1 (by decide) (not_written (by kernel_rfl))
        have h2 : a.tmps.getD 2 undef = _ := hkeep 2 (by decide) (not_written (by kernel_rfl))
        have h7 : a.tmps.getD 7 undef = _ := hkeep 7 (by decide) (not_written (by kernel_rfl))
        have h11 : a.tmps.getD 11 undef = .int .i64 q.e := hval 11 (by kernel_rfl)
        obtain ⟨gb, vo, h10, hgN, hblk, hown⟩ := hJ (hall 13 (by decide))
        obtain ⟨Av, cv, rfl⟩ := own_form hown
        clear hval hkeep hall hJ
        obtain ⟨u, hu⟩ : ∃ u : Nat → Value, u = fun k => a.tmps.getD k undef := ⟨_, rfl⟩
        have ha : a = ⟨(u 0 :: u 1 :: u 2 :: u 3 :: u 4 :: u 5 :: u 6 :: u 7 :: u 8 :: u 9 :: u 10 :: u 11 :: u 12 :: u 13 :: u 14 :: u 15 :: u 16 :: u 17 :: u 18 :: u 19 :: u 20 :: u 21 :: u 22 :: u 23 :: u 24 :: u 25 :: u 26 :: u 27 :: u 28 :: u 29 :: u 30 :: u 31 :: u 32 :: u 33 :: u 34 :: u 35 :: u 36 :: u 37 :: u 38 :: u 39 :: u 40 :: u 41 :: u 42 :: u 43 :: u 44 :: u 45 :: u 46 :: u 47 :: u 48 :: u 49 :: u 50 :: u 51 :: u 52 :: u 53 :: u 54 :: u 55 :: u 56 :: u 57 :: u 58 :: u 59 :: u 60 :: u 61 :: u 62 :: u 63 :: u 64 :: []).toArray, a.defers⟩ := by
          rw [hu]; exact frame_eq hn
        have e0 : u 0 = tabV tb := (congrFun hu 0).trans h0
        have e1 : u 1 = .int .i64 n := (congrFun hu 1).trans h1
        have e2 : u 2 = vp := (congrFun hu 2).trans h2
        have e7 : u 7 = .pointer (some ⟨g, 0, none⟩) := (congrFun hu 7).trans h7
        have e10 : u 10 = .pointer (some ⟨gb, 0, none⟩) := (congrFun hu 10).trans h10
        have e11 : u 11 = .int .i64 q.e := (congrFun hu 11).trans h11
        rw [e0, e1, e2, e7, e10, e11, hd] at ha
        clear hd hn h0 h1 h2 h7 h10 h11 hu
        subst ha
        clear e0 e1 e2 e7 e10 e11
        have HG := hid hG.out
        have HBW := hid (HB2.out.trans (hG.out.mono HB2.out.size))
        have HBLK := hid hblk
        have HOWN := hid hown
        have HX3 := hid (HX2.out.below hG.out)
        have HT3 := hid (HT2.out.below hG.out)
        have HGN := hid hgN
        have HFT : Hid (foot tb m < w.heap.size) := hid (by
          cases m with
          | none => exact HT.out.lt
          | some b => exact HT.out.mlt b rfl)
        clear hG hblk hown hgN lt0 q0 q1 q2 HX2
        obtain ⟨β, hβ⟩ : ∃ β, (chk l).isSome = β := ⟨_, rfl⟩
        cases β with
        | false =>
          have hqe : q.e = 9 := by rw [← HQ.out]; unfold runQ; rw [if_neg (by rw [hβ]; decide)]
          rw [hqe]
          have Hβ := hid hβ
          clear hβ hqe
          go_wp2_with fail
          go_ret2
          exact .inr (.inl ⟨HOK.out, Hβ.out, rfl, HBW.out⟩)
        | true =>
          obtain ⟨r1, r2, r3, r4⟩ := run_right hβ HKR.out.2 HCR.out.1 HCR.out.2
          rw [HQ.out] at r1 r2 r3 r4
          have Hβ := hid hβ
          have HR4 := hid r1
          have HIA := hid (rgt_i64 r2); have HIC := hid (rgt_i64 r3)
          have HS : Hid (setB n k ((q.a, q.b), (q.c, q.d)) = true) := hid (by
            have ho := HOK.out
            rw [Bool.and_eq_true] at ho
            unfold setB rgt4
            rw [ho.1, HKR.out.1, r2, r3]
            rfl)
          rw [r4]
          have ⟨_, q0, q1, q2⟩ := HX3.out
          have ⟨lgb, z0, z1, z2, z3, z4, z5, zf⟩ := res_cells HBLK.out
          clear hβ r1 r2 r3 r4
          go_wp2_with fail
          refine (set_any tb m D n k q.a q.b q.c q.d HN.out HK.out HIA.out HIC.out w' HT3.out).mono ?_
          rintro e w5 hp
          rcases hp with ⟨hs, _, _⟩ | ⟨_, rfl, m', ht, hgr, hm⟩
          · rw [HS.out] at hs; cases hs
          · have HT5 := hid ht; have HGR := hid hgr; have HM := hid hm
            have HX5 := hid (HX3.out.grown hgr (by have := HFT.out; have := HGG.out; omega))
            have HB5 := hid ((hgr.block gb lgb (fun q => by injection q with q; have := HFT.out; have := HGN.out; have := HB2.out.size; omega)).trans HBLK.out)
            have HO5 := hid (HOWN.out.kept hgr (own_ne HOWN.out (by have := HFT.out; have := HB2.out.size; omega)))
            have HSV := hid (SlV.of_own HO5.out)
            have HW5 : Hid (w.grownBy w5 (some (foot tb m))) := hid ((turned_below HBW.out (some (foot tb m))).andThen hgr (fun j hj => .inr hj))
            have ⟨_, y0, y1, y2⟩ := HX5.out
            have ⟨lb5, x0, x1, x2, x3, x4, x5, xf⟩ := res_cells HB5.out
            clear ht hgr hm q0 q1 q2 z0 z1 z2 z3 z4 z5 zf lgb
            go_wp2_with fail
            obtain ⟨i0, hi, hz0, hz1, hz2⟩ := info_parts recInfo
            obtain ⟨B5, hB5⟩ : ∃ B, w5.heap.size = B := ⟨_, rfl⟩
            have HB5S := hid hB5
            rw [hB5] at HSV
            clear x0 x1 x2 x3 x4 x5 xf lb5 y0 y1 y2 hB5
            go_loopw [12, 52] (fun v i wr => ∃ (j : Nat) (A : Option Addr) (c : Nat), j ≤ q.out.length ∧ v = .slice A j c ∧ i = .int .i64 j ∧ Hid (wr.ownsRow B5 41 3 (.slice A j c) j (recCells ((q.out.take j).map fun v => (k, v)))) ∧ Hid (Below B5 w5 wr)) (fun _ i _ => q.out.length - (RowKit.intOf i).toNat)
            case atStart => exact ⟨0, none, 0, Nat.zero_le _, rfl, rfl, hid (World.ownsRow_nil _ _ _ _), hid (Below.refl _ _)⟩
            case round =>
              obtain ⟨j, A, cA, hj, rfl, rfl, HOA, HBA⟩ := hrel
              have HX6 := hid (HX5.out.below (HBA.out.mono (Nat.le_of_eq HB5S.out)))
              have ⟨lg, y0, y1, y2⟩ := HX6.out
              by_cases hlt : j < q.out.length
              · obtain ⟨Av', cv', hv', hcv, hrow⟩ := HSV.out
                injection hv' with e1 e2 e3
                obtain ⟨b1, o1, hA1, hb1, hcell⟩ := hrow (by omega)
                obtain rfl : Av = some ⟨b1, o1, none⟩ := e1.trans hA1
                obtain ⟨ca, cb⟩ := hcell j hlt
                obtain ⟨x', y', hxy⟩ := pair_of (p := q.out.getD j (0, 0))
                rw [hxy] at ca cb
                simp only at ca cb
                have ca' := (HBA.out.cell (p := ⟨b1, o1 + j * 2, none⟩) hb1).trans ca
                have cb' := (HBA.out.cell (p := ⟨b1, o1 + j * 2 + 1, none⟩) hb1).trans cb
                have HXY' := hid hxy
                obtain ⟨W6, hW6, HB6, HZ6⟩ := box2 wr x' y' 31
                have HX7 := hid (HX6.out.below HB6.out)
                have HO7 := hid (own_below HOA.out HB6.out)
                have HBB7 : Hid (Below B5 w5 W6) := hid (HBA.out.trans (HB6.out.mono (by rw [← HB5S.out]; exact HBA.out.size)))
                have ⟨_, p0, p1, _⟩ := HZ6.out
                have ⟨_, y0', y1', y2'⟩ := HX7.out
                have HNR := hid (new_rec W6 k x' y' 41)
                have hbs : B5 ≤ (W6.alloc (.cells #[.int .i64 k, .int .i64 x', .int .i64 y'] 41)).heap.size := by rw [World.size_alloc]; have := HBB7.out.size; have := HB5S.out; omega
                have HO8 := hid (HO7.out.alloc (.cells #[.int .i64 k, .int .i64 x', .int .i64 y'] 41))
                have HBB8 : Hid (Below B5 w5 (W6.alloc (.cells #[.int .i64 k, .int .i64 x', .int .i64 y'] 41))) := hid (HBB7.out.alloc (by have := HBB7.out.size; have := HB5S.out; omega) _)
                have hj4 : j ≤ 4 := Nat.le_trans hj HR4.out
                clear ca cb hcell hrow hxy hA1 e1 e2 e3 hcv
                go_wp2_with (at_builtin; refine wpList_append_own _ rfl _ _ 46 rfl B5 41 i0 (.agg #[.int .i64 0, .int .i64 0, .int .i64 0]) 3 24 Tryz.underlying46 hi hz0 hz1 hz2 rfl (by decide) (.slice A j cA) j (recCells ((q.out.take j).map fun v => (k, v))) rfl HO8.out ⟨W6.heap.size, 0, none⟩ 1 1 (encR (k, (x', y'))) rfl rfl HNR.out (encR_one _) (by unfold maxLen; omega) (by omega) hbs ?_; intro v' w9 hown9 hg9 _; obtain ⟨A9, c9, rfl⟩ := own_form hown9; have HO9 := hid hown9; have HG9 := hid hg9; clear hown9 hg9)
                have HBB9 := hid (HBB8.out.grown HG9.out hbs (fun z hz => by have := (HO8.out.lt _ hz).1; omega))
                go_roundw
                case rel =>
                  refine ⟨j + 1, A9, c9, by omega, rfl, by go_num, hid ?_, HBB9⟩
                  have e : (q.out.take (j + 1)).map (fun v => (k, v)) = (q.out.take j).map (fun v => (k, v)) ++ [(k, (x', y'))] := by
                    rw [List.take_succ_eq_append_getElem hlt, List.map_append]
                    have := HXY'.out
                    rw [List.getD_eq_getElem?_getD, List.getElem?_eq_getElem hlt] at this
                    simp only [Option.getD_some] at this
                    rw [this]
                    rfl
                  rw [e, recCells_snoc]
                  exact HO9.out
                case measure => simp [RowKit.intOf]; omega
              · have hje : j = q.out.length := by omega
                subst hje
                rw [List.take_length] at HOA
                go_wp2_with fail
                go_ret2
                refine .inr (.inr ⟨HOK.out, Hβ.out, A, cA, m', B5, ?_, ?_, ?_, HM.out.imp id (fun ⟨p, b, e, hb⟩ => ⟨p, b, e, Nat.le_trans HBW.out.size hb⟩), ?_, ?_, ?_, ?_⟩)
                · rw [HQ.out]; rfl
                · rw [HQ.out]
                  exact HT5.out.below (HBA.out.mono (Nat.le_of_eq HB5S.out))
                · exact HW5.out.andThen (turned_below (HBA.out.mono (Nat.le_of_eq HB5S.out)) (some (foot tb m))) (fun z hz => .inr hz)
                · rw [← HB5S.out]; exact HW5.out.size
                · rw [← HB5S.out]; exact HT5.out.lt
                · rw [← HB5S.out]; exact HT5.out.mlt
                · rw [HQ.out]; exact HOA.out

end Go.Proofs.YtfhlpbjdcdagjaaGreatDoor

namespace Go.Proofs.YtfhlpbjdcdagjaaGreatDoor
open Go.RowKit Go.Lib Go.MapKept
set_option linter.unusedVariables false
set_option maxRecDepth 100000

theorem eqin_arr4 (n : Nat) (a b c d a' b' c' d' : Int) (w : World) : (Op.equalIn (n + 3) 32 (.agg #[.int .i64 a, .int .i64 b, .int .i64 c, .int .i64 d]) (.agg #[.int .i64 a', .int .i64 b', .int .i64 c', .int .i64 d'])).run Tryz.prog w = .ok (decide (((a, b), (c, d)) = (((a', b'), (c', d')) : C4))) w := by
  obtain ⟨i, hi, h0, h1, h2⟩ := info_parts valInfo
  have hc : Tryz.prog.cellsOf 31 = 2 := by kernel_rfl
  rw [run_equalIn_array w (n + 2) _ _ Tryz.underlying32 hi, hc, show List.range 2 = [0, 1] from rfl]
  have p0 : ∀ (x y z u : Int) (w : World), (part 31 #[.int .i64 x, .int .i64 y, .int .i64 z, .int .i64 u] 0).run Tryz.prog w = .ok (val x y) w := by
    intro x y z u w
    simp [part, isAgg, go_sem, sizeOf, typeInfo, hi, h1]
  have p2 : ∀ (x y z u : Int) (w : World), (part 31 #[.int .i64 x, .int .i64 y, .int .i64 z, .int .i64 u] 2).run Tryz.prog w = .ok (val z u) w := by
    intro x y z u w
    simp [part, isAgg, go_sem, sizeOf, typeInfo, hi, h1]
  have q : ∀ (a b c d : Int) (w : World), (Op.equalIn (n + 2) 31 (val a b) (val c d)).run Tryz.prog w = .ok (decide (a = c) && decide (b = d)) w := fun a b c d w => eqin_val n a b c d w
  have e2 : 1 * 2 = 2 := rfl
  have e0 : 0 * 2 = 0 := rfl
  simp only [Op.eqItems, Sem.run_bind, e0, e2, p0, p2, q, Result.andThen_ok, Sem.run_ite, Sem.run_pure]
  by_cases h : a = a' <;> by_cases h2 : b = b' <;> by_cases h3 : c = c' <;> by_cases h4 : d = d' <;> simp [h, h2, h3, h4]

abbrev entV (n k a b c d : Int) : Value := .agg #[.int .i64 n, .int .i64 k, .int .i64 a, .int .i64 b, .int .i64 c, .int .i64 d]

theorem arrInfo : (Tryz.prog.info? 32).map (fun i => (i.zero, i.size, i.bytes)) = some (some (.agg #[.int .i64 0, .int .i64 0, .int .i64 0, .int .i64 0]), 4, 32) := by kernel_rfl

theorem eqin_int (n : Nat) (a b : Int) (w : World) : (Op.equalIn (n + 1) 3 (.int .i64 a) (.int .i64 b)).run Tryz.prog w = .ok (decide (a = b)) w := by
  by_cases h : a = b <;> simp [go_sem, Tryz.underlying3, h]

theorem eqin_ent (n : Nat) (x y : Ent) (w : World) : (Op.equalIn (n + 4) 37 (entV x.1.1 x.1.2 x.2.1.1 x.2.1.2 x.2.2.1 x.2.2.2) (entV y.1.1 y.1.2 y.2.1.1 y.2.1.2 y.2.2.1 y.2.2.2)).run Tryz.prog w = .ok (decide (x = y)) w := by
  obtain ⟨x0, x1, a, b, c, d, rfl⟩ := ent_of (x := x)
  obtain ⟨y0, y1, a', b', c', d', rfl⟩ := ent_of (x := y)
  rw [run_equalIn_struct w (n + 3) 37 _ _ (by kernel_rfl) (by kernel_rfl)]
  have hf : (Tryz.prog.fieldsOf 37).toList = [{ name := "Node", type := 3, offset := 0, embedded := false, tag := "", pkgPath := "", byteOffset := 0 }, { name := "Key", type := 3, offset := 1, embedded := false, tag := "", pkgPath := "", byteOffset := 8 }, { name := "Cells", type := 32, offset := 2, embedded := false, tag := "", pkgPath := "", byteOffset := 16 }] := by kernel_rfl
  rw [hf]
  obtain ⟨i, hi, h0, h1, h2⟩ := info_parts arrInfo
  have pc : ∀ (x y z u v t : Int) (w : World), (part 32 #[.int .i64 x, .int .i64 y, .int .i64 z, .int .i64 u, .int .i64 v, .int .i64 t] 2).run Tryz.prog w = .ok (.agg #[.int .i64 z, .int .i64 u, .int .i64 v, .int .i64 t]) w := by
    intro x y z u v t w
    simp [part, isAgg, go_sem, sizeOf, typeInfo, hi, h1]
  have p0 : ∀ (x y z u v t : Int) (w : World), (part 3 #[.int .i64 x, .int .i64 y, .int .i64 z, .int .i64 u, .int .i64 v, .int .i64 t] 0).run Tryz.prog w = .ok (.int .i64 x) w := by
    intro x y z u v t w
    simp [part, isAgg, go_sem]
  have p1 : ∀ (x y z u v t : Int) (w : World), (part 3 #[.int .i64 x, .int .i64 y, .int .i64 z, .int .i64 u, .int .i64 v, .int .i64 t] 1).run Tryz.prog w = .ok (.int .i64 y) w := by
    intro x y z u v t w
    simp [part, isAgg, go_sem]
  simp only [Op.eqFields, Sem.run_bind, p0, p1, pc, Result.andThen_ok, eqin_int, eqin_arr4, Sem.run_ite, Sem.run_pure]
  by_cases h : x0 = y0 <;> by_cases h2 : x1 = y1 <;> by_cases h3 : (((a, b), (c, d)) : C4) = ((a', b'), (c', d')) <;> simp [h, h2, h3]

theorem neq_ent (x y : Ent) (w : World) : (binOp .neq 37 (entV x.1.1 x.1.2 x.2.1.1 x.2.1.2 x.2.2.1 x.2.2.2) (entV y.1.1 y.1.2 y.2.1.1 y.2.1.2 y.2.2.1 y.2.2.2)).run Tryz.prog w = .ok (.bool (!decide (x = y))) w := by
  rw [run_neq_struct, eqin_ent 9996 x y w]
  rfl

abbrev Rec3 := Int × (Int × Int)

theorem eqin_rec (n : Nat) (x y : Rec3) (w : World) : (Op.equalIn (n + 3) 41 (recV x.1 x.2.1 x.2.2) (recV y.1 y.2.1 y.2.2)).run Tryz.prog w = .ok (decide (x = y)) w := by
  obtain ⟨k, a, b⟩ := x
  obtain ⟨k', a', b'⟩ := y
  rw [run_equalIn_struct w (n + 2) 41 _ _ (by kernel_rfl) (by kernel_rfl)]
  have hf : (Tryz.prog.fieldsOf 41).toList = [{ name := "Key", type := 3, offset := 0, embedded := false, tag := "", pkgPath := "", byteOffset := 0 }, { name := "Val", type := 31, offset := 1, embedded := false, tag := "", pkgPath := "", byteOffset := 8 }] := by kernel_rfl
  rw [hf]
  obtain ⟨i, hi, h0, h1, h2⟩ := info_parts valInfo
  have pc : ∀ (x y z : Int) (w : World), (part 31 #[.int .i64 x, .int .i64 y, .int .i64 z] 1).run Tryz.prog w = .ok (val y z) w := by
    intro x y z w
    simp [part, isAgg, go_sem, sizeOf, typeInfo, hi, h1]
  have p0 : ∀ (x y z : Int) (w : World), (part 3 #[.int .i64 x, .int .i64 y, .int .i64 z] 0).run Tryz.prog w = .ok (.int .i64 x) w := by
    intro x y z w
    simp [part, isAgg, go_sem]
  simp only [Op.eqFields, Sem.run_bind, p0, pc, Result.andThen_ok, eqin_int, eqin_val, Sem.run_ite, Sem.run_pure]
  by_cases h : k = k' <;> by_cases h2 : a = a' <;> by_cases h3 : b = b' <;> simp [h, h2, h3]

theorem neq_rec (x y : Rec3) (w : World) : (binOp .neq 41 (recV x.1 x.2.1 x.2.2) (recV y.1 y.2.1 y.2.2)).run Tryz.prog w = .ok (.bool (!decide (x = y))) w := by
  rw [run_neq_struct, eqin_rec 9997 x y w]
  rfl

theorem eql_rec (x y : Rec3) (w : World) : (binOp .eql 41 (recV x.1 x.2.1 x.2.2) (recV y.1 y.2.1 y.2.2)).run Tryz.prog w = .ok (.bool (decide (x = y))) w := by
  rw [run_eql_struct, eqin_rec 9997 x y w]
  rfl

/-- A list of records. -/
structure RecC (w : World) (b o : Nat) (x : Rec3) : Prop where
  c0 : w.cell? ⟨b, o, none⟩ = some (.int .i64 x.1)
  c1 : w.cell? ⟨b, o + 1, none⟩ = some (.int .i64 x.2.1)
  c2 : w.cell? ⟨b, o + 2, none⟩ = some (.int .i64 x.2.2)

theorem RecC.keep {w w' : World} {b o : Nat} {x : Rec3} (h : RecC w b o x) (hk : ∀ o, w'.cell? ⟨b, o, none⟩ = w.cell? ⟨b, o, none⟩) : RecC w' b o x :=
  ⟨(hk _).trans h.c0, (hk _).trans h.c1, (hk _).trans h.c2⟩

def r0 : Rec3 := (0, (0, 0))

def SlR (w : World) (B : Nat) (v : Value) (l : List Rec3) : Prop :=
  ∃ A c, v = .slice A l.length c ∧ l.length ≤ c ∧ (0 < l.length → ∃ b o, A = some ⟨b, o, none⟩ ∧ b < B ∧ ∀ j, j < l.length → RecC w b (o + j * 3) (l.getD j r0))

theorem SlR.keep {w w' : World} {B : Nat} {v : Value} {l : List Rec3} (h : SlR w B v l) (hk : ∀ b o, b < B → w'.cell? ⟨b, o, none⟩ = w.cell? ⟨b, o, none⟩) : SlR w' B v l := by
  obtain ⟨A, c, hv, hc, h⟩ := h
  refine ⟨A, c, hv, hc, fun hp => ?_⟩
  obtain ⟨b, o, hA, hb, hx⟩ := h hp
  exact ⟨b, o, hA, hb, fun j hj => (hx j hj).keep fun o => hk b o hb⟩

theorem SlR.below {w w' : World} {B : Nat} {v : Value} {l : List Rec3} (h : SlR w B v l) (hb : Below B w w') : SlR w' B v l := h.keep fun b o h => hb.cell (p := ⟨b, o, none⟩) h

theorem entCells_at (L : List Ent) (j i : Nat) (hj : j < L.length) (hi : i < 6) : (entCells L)[j * 6 + i]? = (encE (L.getD j e0))[i]? := by
  have h1 : (j * 6 + i) / 6 = j := by omega
  have h2 : (j * 6 + i) % 6 = i := by omega
  have := entCells_get L (j * 6 + i) (by omega)
  rw [this, h2]
  congr 2
  simp only [h1]
  rw [List.getD_eq_getElem?_getD, List.getElem?_eq_getElem hj]
  rfl

theorem SlE.of_own {w : World} {B : Nat} {t : TypeId} {v : Value} {L : List Ent} (h : w.ownsRow B t 6 v L.length (entCells L)) : SlE w w.heap.size v L := by
  rcases h.2 with ⟨rfl, hn⟩ | ⟨g, cap, cur, rfl, hb, hg, hc, hm, hs, hx⟩
  · have : L = [] := List.eq_nil_of_length_eq_zero hn
    subst this
    exact ⟨_, _, rfl, Nat.le_refl _, fun q => absurd q (by simp)⟩
  · refine ⟨_, _, rfl, hc, fun hp => ⟨g, 0, rfl, (Array.getElem?_eq_some_iff.1 hg).1, fun j hj => ?_⟩⟩
    have cell : ∀ i, i < 6 → w.cell? ⟨g, 0 + j * 6 + i, none⟩ = (encE (L.getD j e0))[i]? := by
      intro i hi
      have hlt : j * 6 + i < L.length * 6 := by omega
      have h1 := entCells_at L j i hj hi
      rw [← hx, List.getElem?_take, if_pos hlt, Array.getElem?_toList] at h1
      rw [Nat.zero_add]
      unfold World.cell?
      rw [hg]
      simpa using h1
    exact ⟨cell 0 (by omega), cell 1 (by omega), cell 2 (by omega), cell 3 (by omega), cell 4 (by omega), cell 5 (by omega)⟩

theorem recCells_at : ∀ (L : List Rec3) (j i : Nat), j < L.length → i < 3 → (recCells L)[j * 3 + i]? = (encR (L.getD j r0))[i]?
  | [], j, i, h, _ => by simp at h
  | x :: L, 0, i, h, hi => by
    show (encR x ++ recCells L)[0 * 3 + i]? = _
    rw [List.getElem?_append_left (by show _ < 3; omega)]
    simp
  | x :: L, j + 1, i, h, hi => by
    show (encR x ++ recCells L)[(j + 1) * 3 + i]? = _
    rw [List.getElem?_append_right (by show 3 ≤ _; omega)]
    have e : (j + 1) * 3 + i - (encR x).length = j * 3 + i := by show _ - 3 = _; omega
    rw [e, recCells_at L j i (by simp at h; omega) hi]
    simp

theorem SlR.of_own {w : World} {B : Nat} {t : TypeId} {v : Value} {L : List Rec3} (h : w.ownsRow B t 3 v L.length (recCells L)) : SlR w w.heap.size v L := by
  rcases h.2 with ⟨rfl, hn⟩ | ⟨g, cap, cur, rfl, hb, hg, hc, hm, hs, hx⟩
  · have : L = [] := List.eq_nil_of_length_eq_zero hn
    subst this
    exact ⟨_, _, rfl, Nat.le_refl _, fun q => absurd q (by simp)⟩
  · refine ⟨_, _, rfl, hc, fun hp => ⟨g, 0, rfl, (Array.getElem?_eq_some_iff.1 hg).1, fun j hj => ?_⟩⟩
    have cell : ∀ i, i < 3 → w.cell? ⟨g, 0 + j * 3 + i, none⟩ = (encR (L.getD j r0))[i]? := by
      intro i hi
      have hlt : j * 3 + i < L.length * 3 := by omega
      have h1 := recCells_at L j i hj hi
      rw [← hx, List.getElem?_take, if_pos hlt, Array.getElem?_toList] at h1
      rw [Nat.zero_add]
      unfold World.cell?
      rw [hg]
      simpa using h1
    exact ⟨cell 0 (by omega), cell 1 (by omega), cell 2 (by omega)⟩

set_option maxHeartbeats 1000000 in
theorem csame_any (v v' : Value) (l l' : List Ent) (β : Bool) (hβ : Hid (decide (l = l') = β)) (hl : l.length ≤ 1000000000) (hl' : l'.length ≤ 1000000000) (w : World) (hv : SlE w w.heap.size v l) (hv' : SlE w w.heap.size v' l') :
    Calls Tryz.prog 18 #[v, v'] w fun e w' => e = .returned (.bool β) ∧ Below w.heap.size w w' := by
  obtain ⟨A, c, rfl, hc, hA⟩ := hv
  obtain ⟨A', c', rfl, hc', hA'⟩ := hv'
  have HA := hid hA; have HA' := hid hA'; clear hA hA'
  by_cases hn : l.length = l'.length
  · obtain ⟨m, hm⟩ : ∃ m, l.length = m := ⟨_, rfl⟩
    have hm' : l'.length = m := by rw [← hn]; exact hm
    have HM := hid hm; have HM' := hid hm'
    rw [hm] at hc hl HA ⊢
    rw [hm'] at hc' HA' ⊢
    clear hn hm hm' hl'
    go_enter Tryz.func18, Tryz.ntmps18
    go_wp2_with fail
    go_loopw [5] (fun i wr => ∃ k : Nat, k ≤ m ∧ i = .int .i64 k ∧ Hid (∀ j, j < k → l.getD j e0 = l'.getD j e0) ∧ Hid (Below w.heap.size w wr)) (fun i _ => m - (RowKit.intOf i).toNat)
    case atStart => exact ⟨0, Nat.zero_le _, rfl, hid (fun j hj => absurd hj (by omega)), hid (Below.refl _ _)⟩
    case round =>
      obtain ⟨k, hk, rfl, HT, HB⟩ := hrel
      by_cases hlt : k < m
      · obtain ⟨b, o, rfl, hbB, hcell⟩ := HA.out (by omega)
        obtain ⟨b', o', rfl, hbB', hcell'⟩ := HA'.out (by omega)
        obtain ⟨c0, c1, c2, c3, c4, c5⟩ := (hcell k hlt).keep (w' := wr) fun o => HB.out.cell (p := ⟨b, o, none⟩) hbB
        obtain ⟨c0', c1', c2', c3', c4', c5'⟩ := (hcell' k hlt).keep (w' := wr) fun o => HB.out.cell (p := ⟨b', o, none⟩) hbB'
        obtain ⟨x, hx⟩ : ∃ x, l.getD k e0 = x := ⟨_, rfl⟩
        obtain ⟨y, hy⟩ : ∃ y, l'.getD k e0 = y := ⟨_, rfl⟩
        rw [hx] at c0 c1 c2 c3 c4 c5
        rw [hy] at c0' c1' c2' c3' c4' c5'
        have HX := hid hx; have HX' := hid hy
        obtain ⟨γ, hγ⟩ : ∃ γ, (!decide (x = y)) = γ := ⟨_, rfl⟩
        have hq := fun w : World => (neq_ent x y w).trans (by rw [hγ])
        have HG := hid hγ
        clear hcell hcell' hx hy hγ
        go_wp2_with fail
        go_quiet (fail)
        have HB2 := hid (below_drewN' HB.out nq)
        cases γ with
        | false =>
          have HEQ : Hid (x = y) := hid (by have := HG.out; simpa using this)
          go_wp2_with fail
          go_roundw
          case rel => exact ⟨k + 1, by omega, by go_num, hid (fun j hj => by
            by_cases e : j = k
            · rw [e, HX.out, HX'.out]; exact HEQ.out
            · exact HT.out j (by omega)), HB2⟩
          case measure => simp [RowKit.intOf] <;> omega
        | true =>
          have hb : Hid (false = β) := hid (by
            rw [← hβ.out]
            refine (decide_eq_false fun e => ?_).symm
            have h1 := HX.out
            rw [e, HX'.out] at h1
            have := HG.out
            simp [h1] at this)
          go_wp2_with fail
          go_ret
          exact ⟨ret_bool hb.out, HB2.out⟩
      · have hb : Hid (true = β) := hid (by
          rw [← hβ.out]
          refine (decide_eq_true (List.ext_getElem (by rw [HM.out, HM'.out]) fun j h1 h2 => ?_)).symm
          have := HT.out j (by rw [HM.out] at h1; omega)
          rw [List.getD_eq_getElem?_getD, List.getD_eq_getElem?_getD, List.getElem?_eq_getElem h1, List.getElem?_eq_getElem h2] at this
          exact this)
        go_wp2_with fail
        go_ret
        exact ⟨ret_bool hb.out, HB.out⟩
  · have hb : Hid (false = β) := hid (by rw [← hβ.out]; exact (decide_eq_false fun e => hn (by rw [e])).symm)
    have hd : ((l.length : Int) == (l'.length : Int)) = false := by simp only [beq_eq_false_iff_ne]; omega
    go_enter Tryz.func18, Tryz.ntmps18
    go_wp2_with fail
    go_ret
    exact ⟨ret_bool hb.out, Below.refl _ _⟩

set_option maxHeartbeats 1000000 in
theorem crecs_any (v v' : Value) (l l' : List Rec3) (β : Bool) (hβ : Hid (decide (l = l') = β)) (hl : l.length ≤ 1000000000) (hl' : l'.length ≤ 1000000000) (w : World) (hv : SlR w w.heap.size v l) (hv' : SlR w w.heap.size v' l') :
    Calls Tryz.prog 13 #[v, v'] w fun e w' => e = .returned (.bool β) ∧ Below w.heap.size w w' := by
  obtain ⟨A, c, rfl, hc, hA⟩ := hv
  obtain ⟨A', c', rfl, hc', hA'⟩ := hv'
  have HA := hid hA; have HA' := hid hA'; clear hA hA'
  by_cases hn : l.length = l'.length
  · obtain ⟨m, hm⟩ : ∃ m, l.length = m := ⟨_, rfl⟩
    have hm' : l'.length = m := by rw [← hn]; exact hm
    have HM := hid hm; have HM' := hid hm'
    rw [hm] at hc hl HA ⊢
    rw [hm'] at hc' HA' ⊢
    clear hn hm hm' hl'
    go_enter Tryz.func13, Tryz.ntmps13
    go_wp2_with fail
    go_loopw [5] (fun i wr => ∃ k : Nat, k ≤ m ∧ i = .int .i64 k ∧ Hid (∀ j, j < k → l.getD j r0 = l'.getD j r0) ∧ Hid (Below w.heap.size w wr)) (fun i _ => m - (RowKit.intOf i).toNat)
    case atStart => exact ⟨0, Nat.zero_le _, rfl, hid (fun j hj => absurd hj (by omega)), hid (Below.refl _ _)⟩
    case round =>
      obtain ⟨k, hk, rfl, HT, HB⟩ := hrel
      by_cases hlt : k < m
      · obtain ⟨b, o, rfl, hbB, hcell⟩ := HA.out (by omega)
        obtain ⟨b', o', rfl, hbB', hcell'⟩ := HA'.out (by omega)
        obtain ⟨c0, c1, c2⟩ := (hcell k hlt).keep (w' := wr) fun o => HB.out.cell (p := ⟨b, o, none⟩) hbB
        obtain ⟨c0', c1', c2'⟩ := (hcell' k hlt).keep (w' := wr) fun o => HB.out.cell (p := ⟨b', o, none⟩) hbB'
        obtain ⟨x, hx⟩ : ∃ x, l.getD k r0 = x := ⟨_, rfl⟩
        obtain ⟨y, hy⟩ : ∃ y, l'.getD k r0 = y := ⟨_, rfl⟩
        rw [hx] at c0 c1 c2
        rw [hy] at c0' c1' c2'
        have HX := hid hx; have HX' := hid hy
        obtain ⟨γ, hγ⟩ : ∃ γ, (!decide (x = y)) = γ := ⟨_, rfl⟩
        have hq := fun w : World => (neq_rec x y w).trans (by rw [hγ])
        have HG := hid hγ
        clear hcell hcell' hx hy hγ
        go_wp2_with fail
        go_quiet (fail)
        have HB2 := hid (below_drewN' HB.out nq)
        cases γ with
        | false =>
          have HEQ : Hid (x = y) := hid (by have := HG.out; simpa using this)
          go_wp2_with fail
          go_roundw
          case rel => exact ⟨k + 1, by omega, by go_num, hid (fun j hj => by
            by_cases e : j = k
            · rw [e, HX.out, HX'.out]; exact HEQ.out
            · exact HT.out j (by omega)), HB2⟩
          case measure => simp [RowKit.intOf] <;> omega
        | true =>
          have hb : Hid (false = β) := hid (by
            rw [← hβ.out]
            refine (decide_eq_false fun e => ?_).symm
            have h1 := HX.out
            rw [e, HX'.out] at h1
            have := HG.out
            simp [h1] at this)
          go_wp2_with fail
          go_ret
          exact ⟨ret_bool hb.out, HB2.out⟩
      · have hb : Hid (true = β) := hid (by
          rw [← hβ.out]
          refine (decide_eq_true (List.ext_getElem (by rw [HM.out, HM'.out]) fun j h1 h2 => ?_)).symm
          have := HT.out j (by rw [HM.out] at h1; omega)
          rw [List.getD_eq_getElem?_getD, List.getD_eq_getElem?_getD, List.getElem?_eq_getElem h1, List.getElem?_eq_getElem h2] at this
          exact this)
        go_wp2_with fail
        go_ret
        exact ⟨ret_bool hb.out, HB.out⟩
  · have hb : Hid (false = β) := hid (by rw [← hβ.out]; exact (decide_eq_false fun e => hn (by rw [e])).symm)
    have hd : ((l.length : Int) == (l'.length : Int)) = false := by simp only [beq_eq_false_iff_ne]; omega
    go_enter Tryz.func13, Tryz.ntmps13
    go_wp2_with fail
    go_ret
    exact ⟨ret_bool hb.out, Below.refl _ _⟩

end Go.Proofs.YtfhlpbjdcdagjaaGreatDoor

namespace Go.Proofs.YtfhlpbjdcdagjaaGreatDoor
open Go.RowKit Go.Lib Go.MapKept
set_option linter.unusedVariables false
set_option maxRecDepth 100000

theorem exP_one : runQ exP (1, 0) (0, 0) (0, 0) = ⟨[(1, 0)], 1, 0, 0, 0, 6, 0⟩ := by
  have h : eachS exP [(1, 0)] ⟨[], [], (0, 0), (0, 0), 0⟩ = ⟨[], [(1, 0)], (1, 0), (0, 0), 6⟩ := by
    simp [eachS, runS, fin, finN, exP, opAt, arAt, nxt, stepS, doS, topV, cutV, twoV, addV, into_small]
  unfold runQ
  rw [if_pos exP_chk, h]
  rfl

theorem exP_two : runQ exP (1, 0) (1, 0) (0, 0) = ⟨[(2, 0)], 2, 0, 0, 0, 6, 0⟩ := by
  have h : eachS exP [(1, 0)] ⟨[], [], (1, 0), (0, 0), 0⟩ = ⟨[], [(2, 0)], (2, 0), (0, 0), 6⟩ := by
    simp [eachS, runS, fin, finN, exP, opAt, arAt, nxt, stepS, doS, topV, cutV, twoV, addV, into_small]
  unfold runQ
  rw [if_pos exP_chk, h]
  rfl

theorem CRunPost.yes {w w' : World} {tb : Nat} {m : Option Nat} {D : CTab} {n k x y : Int} {l : List (Int × Int)} {e : Ending} (h : CRunPost w tb m D n k x y l e w') (h1 : (nodeB n && (keyB k && rgtB (x, y))) = true) (h2 : (chk l).isSome = true) {q : RunQ} (hq : runQ l (x, y) (D n k).1 (D n k).2 = q) :
    ∃ A c m' B, e = .returned (.tuple #[.slice A q.out.length c, .int .i64 0]) ∧ TabAt w' tb m' (setT D n k ((q.a, q.b), (q.c, q.d))) ∧ w.grownBy w' (some (foot tb m)) ∧
    (m' = m ∨ (m = none ∧ ∃ b, m' = some b ∧ w.heap.size ≤ b)) ∧ w.heap.size ≤ B ∧ tb < B ∧ (∀ b, m' = some b → b < B) ∧ w'.ownsRow B 41 3 (.slice A q.out.length c) q.out.length (recCells (q.out.map fun v => (k, v))) := by
  rcases h with ⟨a, _⟩ | ⟨_, a, _⟩ | ⟨_, _, A, c, m', B, r⟩
  · rw [h1] at a; cases a
  · rw [h2] at a; cases a
  · rw [hq] at r
    unfold RunT at r
    exact ⟨A, c, m', B, r⟩

theorem exK : (nodeB 3 && (keyB 5 && rgtB (1, 0))) = true := by
  simp [nodeB, keyB, rgtB, into_small]

set_option maxHeartbeats 2000000 in
theorem awake7 (w : World) (he : Env4 w) :
    Calls Tryz.prog 6 #[] w fun e w' => e = .returned (.bool true) ∧ Below w.heap.size w w' := by
  have HE := hid he; clear he
  go_enter Tryz.func6, Tryz.ntmps6
  go_wp2_with fail
  refine (cnew_any (.slice none 0 0) [] (by simp) (by simp) w ⟨none, 0, rfl, Nat.le_refl _, fun h => absurd h (by simp)⟩).mono ?_
  rintro e w1 ⟨⟨h, _⟩ | ⟨_, tb, m, rfl, ht⟩, hb⟩
  · cases h
  have HT1 := hid ht; have HB1 := hid hb
  clear ht hb
  go_wp2_with fail
  refine (cparse_any ⟨#[73, 78, 59, 32, 76, 79, 65, 68, 32, 48, 59, 32, 65, 68, 68, 59, 32, 68, 85, 80, 59, 32, 83, 84, 79, 82, 69, 32, 48, 59, 32, 69, 77, 73, 84]⟩ (by decide) w1 (HE.out.below HB1.out)).mono ?_
  rintro e w2 ⟨⟨v, l, r, rfl, hp, hv⟩, hb⟩
  obtain ⟨rfl, rfl⟩ := hp.of_text exP_fits exP_text
  have HT2 := hid (HT1.out.below hb)
  have HB2 := hid (HB1.out.trans (hb.mono HB1.out.size))
  have HV := hid hv
  obtain ⟨A0, cc0, rfl, _, _⟩ := hv
  clear hb hp
  obtain ⟨v, hv⟩ : ∃ v, Value.slice A0 exP.length cc0 = v := ⟨_, rfl⟩
  rw [hv] at HV ⊢
  clear hv
  go_wp2_with fail
  obtain ⟨W3, hW3, HB3, HX3⟩ := box3 w2 5 1 0 41
  have HT3 := hid (HT2.out.below HB3.out)
  have HV3 := hid ((HV.out.below HB3.out).mono HB3.out.size)
  have HBW3 := hid (HB2.out.trans (HB3.out.mono HB2.out.size))
  obtain ⟨g, hg⟩ : ∃ g, w2.heap.size = g := ⟨_, rfl⟩
  have HGG := hid hg
  rw [hg] at HX3
  rw [hW3, hg]
  clear hW3 hg
  refine (crun_any tb m _ 3 5 1 0 ⟨by decide, by decide⟩ ⟨by decide, by decide⟩ ⟨⟨by decide, by decide⟩, ⟨by decide, by decide⟩⟩ v exP (by decide) W3 HT3.out.at_ HV3.out).mono ?_
  intro e w4 hp
  obtain ⟨A4, c4, m4, B4, rfl, ht4, hg4, hm4, _, _, _, _⟩ := hp.yes exK exP_chk exP_one
  obtain ⟨hn4, hb4⟩ := HT3.out.of_set ht4 hg4 hm4
  have HV4 := hid ((HV3.out.turned HT3.out.at_ hg4).mono hg4.size)
  have HN4 := hid hn4
  have HBW4 := hid (HBW3.out.trans hb4)
  have HX4 := hid (HX3.out.grown hg4 (by
    have h1 := HT2.out.at_.lt
    have h2 := HT2.out.at_.mlt
    rw [HGG.out] at h1 h2
    cases m with
    | none => exact Nat.ne_of_lt h1
    | some b => exact Nat.ne_of_lt (h2 b rfl)))
  have ⟨_, q0, q1, q2⟩ := HX4.out
  clear hp ht4 hg4 hm4 hn4 hb4 HV3
  go_wp2_with fail
  refine (crun_any tb m4 _ 3 5 1 0 ⟨by decide, by decide⟩ ⟨by decide, by decide⟩ ⟨⟨by decide, by decide⟩, ⟨by decide, by decide⟩⟩ v exP (by decide) w4 HN4.out.at_ HV4.out).mono ?_
  intro e w6 hp
  obtain ⟨A6, c6, m6, B6, rfl, ht6, hg6, hm6, _, _, _, ho6⟩ := hp.yes (q := ⟨[(2, 0)], 2, 0, 0, 0, 6, 0⟩) exK exP_chk (by rw [setT_same]; exact exP_two)
  obtain ⟨_, hb6⟩ := HN4.out.of_set ht6 hg6 hm6
  have HBW6 := hid (HBW4.out.trans hb6)
  obtain ⟨A, c, hv, hcc, hrow⟩ := SlR.of_own ho6
  obtain ⟨b, o, rfl, hbl, hx⟩ := hrow (by decide)
  obtain ⟨c0, c1, c2⟩ := hx 0 (by decide)
  injection hv with e1 e2 e3
  subst e1
  simp at c0 c1 c2
  have hq := fun w : World => eql_rec (5, (2, 0)) (5, (2, 0)) w
  simp only at hq
  have hcc' : 1 ≤ c6 := by rw [e3]; exact hcc
  clear hp ht6 hg6 hm6 ho6 hb6 hrow hx e2 q0 q1 q2
  go_wp2_with fail
  go_ret
  exact ⟨rfl, HBW6.out⟩

end Go.Proofs.YtfhlpbjdcdagjaaGreatDoor
