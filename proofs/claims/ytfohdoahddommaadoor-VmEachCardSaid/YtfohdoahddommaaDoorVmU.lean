/- Layer 6, vm: VmEach. -/
import Derived.Test.YtfohdoahddommaaDoorVmS
namespace Go.Proofs.YtfohdoahddommaaDoor
open Go.RowKit Go.Lib
set_option linter.unusedVariables false
set_option maxRecDepth 100000

/-- The box of the cells as it comes in. -/
theorem cell_box (w : World) (a b c d : Int) (t : TypeId) : ∃ W : World, w.alloc (.cells #[.int .i64 a, .int .i64 b, .int .i64 c, .int .i64 d] t) = W ∧ Hid (Below w.heap.size w W) ∧ Hid (CBx W w.heap.size (a, b) (c, d)) :=
  ⟨_, rfl, hid ((Below.refl _ w).alloc (Nat.le_refl _) _), hid ⟨by simp, by simp, by simp, by simp, by simp, fun j => World.frozen?_alloc_new _ _ _ _⟩⟩

theorem own_nil {w : World} {B : Nat} {e : TypeId} {z : Nat} {A : Option Addr} {m c n : Nat} {xs : List Value} (h : w.ownsRow B e z (.slice A m c) n xs) : A = none → m = 0 ∧ c = 0 := by
  rintro rfl
  rcases h.2 with ⟨hv, h0⟩ | ⟨g, cap, cur, hv, _⟩
  · injection hv with e1 e2 e3
    exact ⟨e2, e3⟩
  · injection hv with e1
    cases e1

theorem Res6.grown {w w' : World} {g : Nat} {vo : Value} {a b c d n : Int} {r : Option Nat} (h : Res6 w g vo a b c d n) (hg : w.grownBy w' r) (hn : some g ≠ r) : Res6 w' g vo a b c d n := by
  have hk := hg.block g h.lt hn
  have q := fun j => World.cell?_of_block (a := ⟨g, j, none⟩) hk
  exact ⟨Nat.lt_of_lt_of_le h.lt hg.size, (q 0).trans h.r0, (q 1).trans h.r1, (q 2).trans h.r2, (q 3).trans h.r3, (q 4).trans h.r4, (q 5).trans h.r5⟩

/-- While it goes on. -/
structure EachLp (l ins : List (Int × Int)) (c0 c1 : Int × Int) (W4 : World) (g k : Nat) (ro : List (Int × Int)) (rn : Nat) (N p0 p1 p2 p3 : Int) (Av : Option Addr) (cv : Nat) (wr : World) : Prop where
  hN : (rn : Int) = N
  eto : EachTo l ins c0 c1 k ro rn (p0, p1) (p2, p3)
  sz : ro.length ≤ 4 * k ∧ rn ≤ 24 * k
  rt : 0 < k → (chk l).isSome = true ∧ (rgtB c0 && rgtB c1 && (ins.take k).all rgtB) = true
  i0 : I64 p0 ∧ I64 p1
  i1 : I64 p2 ∧ I64 p3
  bel : Below g W4 wr
  box : CBx wr g (p0, p1) (p2, p3)
  own : wr.ownsRow (g + 1) 24 2 (.slice Av ro.length cv) ro.length (insCells ro)

theorem rgtB_i64 {x : Int × Int} (h : rgtB x = true) : I64 x.1 ∧ I64 x.2 := ((rgtB_iff x).1 h).i64

theorem each_wrap {N : Int} {rn m : Nat} (hN : (rn : Int) = N) (h : rn ≤ 1000000) (hm : m ≤ 1000000) : wrap64 (N + (m : Int)) = N + (m : Int) := by unfold wrap64; omega

set_option maxHeartbeats 1500000 in
theorem law_each (v : Value) (l : List (Int × Int)) (a b c d : Int) (vi : Value) (ins : List (Int × Int)) (w : World) (hv : SvIn w v l) (hab : I64 a ∧ I64 b) (hcd : I64 c ∧ I64 d) (hvi : SvIn w vi ins) (he : Env4 w) :
    Calls Tryd.prog 3 #[v, .agg #[.int .i64 a, .int .i64 b, .int .i64 c, .int .i64 d], vi] w fun e w' => e = .returned (.bool true) ∧ Below w.heap.size w w' := by
  have HAB := hid hab; have HCD := hid hcd; have HE := hid he
  clear hab hcd he
  obtain ⟨hsl, _, _⟩ := hv
  have HV := hid hsl
  obtain ⟨A0, cc0, rfl, hcc, _⟩ := hsl
  obtain ⟨hsi, hfi, _⟩ := hvi
  have HVI := hid hsi
  have HFI := hid hfi
  obtain ⟨Ai, ci, rfl, hci, hAi⟩ := hsi
  have HA := hid hAi; clear hAi hfi
  obtain ⟨W, hW, HB, HX⟩ := cell_box w a b c d 25
  go_enter Tryd.func3, Tryd.ntmps3
  go_wp2_with fail
  clear hW
  refine (awake6 W (HE.out.below HB.out)).mono ?_
  rintro e w1 ⟨rfl, hb⟩
  have HB1 := hid (HB.out.trans (hb.mono HB.out.size))
  have HX1 := hid (HX.out.below hb)
  clear hb HB HX
  by_cases hlen : 60 < l.length
  · go_wp2_with fail
    go_ret
    exact ⟨rfl, HB1.out⟩
  · have hlen' : ¬ (60 : Int) < (l.length : Int) := by omega
    by_cases hlen2 : 40 < ins.length
    · go_wp2_with fail
      go_ret
      exact ⟨rfl, HB1.out⟩
    · have hlen2' : ¬ (40 : Int) < (ins.length : Int) := by omega
      have ⟨_, q0, q1, q2, q3, _⟩ := HX1.out
      go_wp2_with fail
      refine (each_any _ l (by omega) a b c d HAB.out HCD.out _ ins (by omega) HFI.out w1 ((HV.out.below HB1.out).mono HB1.out.size) ((HVI.out.below HB1.out).mono HB1.out.size)).mono ?_
      rintro e w3 ⟨⟨r, rfl, hr⟩, hb⟩
      have HB3 := hid (HB1.out.trans (hb.mono HB1.out.size))
      have HX3 := hid (HX1.out.below hb)
      clear hb q0 q1 q2 q3 HX1 HB1
      obtain ⟨Ao, co, Oa, a0, a1, a2, a3, n, ee, rfl, ho, hk⟩ := hr.kn
      have HKN := hid hk
      have hb4 := (Below.refl w3.heap.size w3).alloc (Nat.le_refl _) (.cells #[.slice Ao Oa.length co, .int .i64 a0, .int .i64 a1, .int .i64 a2, .int .i64 a3, .int .i64 n] 29)
      have HR4 := hid (Res6.new w3 (.slice Ao Oa.length co) a0 a1 a2 a3 n 29)
      have HB4 := hid (HB3.out.trans (hb4.mono HB3.out.size))
      have HX4 := hid (HX3.out.below hb4)
      have HO4 := hid (own_below ho hb4)
      have ⟨l3, q0, q1, q2, q3, _⟩ := HX3.out
      clear ho hb4 hk hr
      go_wp2_with fail
      obtain ⟨W4, hW4⟩ : ∃ W4, w3.alloc (.cells #[.slice Ao Oa.length co, .int .i64 a0, .int .i64 a1, .int .i64 a2, .int .i64 a3, .int .i64 n] 29) = W4 := ⟨_, rfl⟩
      obtain ⟨g4, hg4⟩ : ∃ g4, w3.heap.size = g4 := ⟨_, rfl⟩
      have hs4 : W4.heap.size = g4 + 1 := by rw [← hW4, World.size_alloc, hg4]
      rw [hW4] at HR4 HB4 HX4 HO4 ⊢
      rw [hg4] at HR4 ⊢
      obtain ⟨W5, hW5, HB5, HC5⟩ := cell_box W4 a b c d 25
      rw [hW5]
      rw [← hs4]
      clear hW4 hg4 HB3 HX3 q0 q1 q2 q3 l3 hW5
      obtain ⟨g, hg⟩ : ∃ g, W4.heap.size = g := ⟨_, rfl⟩
      rw [hg] at HB5 HC5 ⊢
      have HG := hid hg
      have HS4 := hid hs4
      clear hg hs4
      go_loopw [9, 10, 36] (fun vo n i wr => ∃ (k : Nat) (ro : List (Int × Int)) (rn : Nat) (N p0 p1 p2 p3 : Int) (Av : Option Addr) (cv : Nat), k ≤ ins.length ∧ vo = .slice Av ro.length cv ∧ n = .int .i64 N ∧ i = .int .i64 k ∧ Hid (EachLp l ins (a, b) (c, d) W4 g k ro rn N p0 p1 p2 p3 Av cv wr)) (fun _ _ i _ => ins.length - (RowKit.intOf i).toNat)
      case atStart => exact ⟨0, [], 0, 0, a, b, c, d, none, 0, Nat.zero_le _, rfl, rfl, rfl, hid ⟨rfl, EachTo.start _ _ _ _, ⟨by simp, by simp⟩, fun h => absurd h (by omega), HAB.out, HCD.out, HB5.out.mono (Nat.le_refl _), HC5.out, World.ownsRow_nil _ _ _ _⟩⟩
      case round =>
        obtain ⟨k, ro, rn, N, p0, p1, p2, p3, Av, cv, hkl, rfl, rfl, rfl, HL⟩ := hrel
        have HWR : Hid (Below w.heap.size w wr) := hid (HB4.out.trans (HL.out.bel.mono (by have := HB4.out.size; have := HG.out; omega)))
        have HR := hid (HR4.out.below (HL.out.bel.mono (Nat.le_of_eq HG.out)))
        by_cases hlt : k < ins.length
        · obtain ⟨b1, o1, rfl, hb1, hcell⟩ := HA.out (by omega)
          obtain ⟨ca, cb⟩ := hcell k hlt
          obtain ⟨x, y, hxy⟩ := pair_of (p := ins.getD k (0, 0))
          have hix := HFI.out k hlt
          rw [hxy] at ca cb hix
          simp only at ca cb hix
          have HIX := hid hix
          have HXY := hid hxy
          have ca' := (HWR.out.cell (p := ⟨b1, o1 + k * 2, none⟩) hb1).trans ca
          have cb' := (HWR.out.cell (p := ⟨b1, o1 + k * 2 + 1, none⟩) hb1).trans cb
          have ⟨lg, q0, q1, q2, q3, _⟩ := HL.out.box
          simp only at q0 q1 q2 q3
          have hb2 := (Below.refl wr.heap.size wr).alloc (Nat.le_refl _) (.cells #[.int .i64 x, .int .i64 y] 24)
          have HB2 := hid hb2
          clear ca cb hcell hix hxy hb2
          go_wp2_with fail
          refine (vrun_any _ l (by omega) x y p0 p1 p2 p3 HIX.out HL.out.i0 HL.out.i1 (wr.alloc (.cells #[.int .i64 x, .int .i64 y] 24)) ((HV.out.below (HWR.out.trans (HB2.out.mono HWR.out.size))).mono (HWR.out.trans (HB2.out.mono HWR.out.size)).size)).mono ?_
          rintro e w6 ⟨⟨r, rfl, hr⟩, hb6⟩
          have HB6 : Hid (Below wr.heap.size wr w6) := hid (HB2.out.trans (hb6.mono HB2.out.size))
          have HW6 : Hid (Below w.heap.size w w6) := hid (HWR.out.trans (HB6.out.mono HWR.out.size))
          have HR6 := hid (HR.out.below HB6.out)
          clear hb6 q0 q1 q2 q3 ca' cb' HB2
          cases hr with
          | code h =>
            obtain ⟨z1, rfl, rfl⟩ := each_code HKN.out h
            have ⟨l6, r0, r1, r2, r3, r4, r5⟩ := HR6.out
            rw [z1] at r0
            go_wp2_with fail
            go_ret
            exact ⟨rfl, HW6.out.alloc HW6.out.size _⟩
          | arg h h2 =>
            obtain ⟨z1, rfl, rfl⟩ := each_arg HKN.out HL.out.eto hlt h (by rw [HXY.out]; exact h2)
            have ⟨l6, r0, r1, r2, r3, r4, r5⟩ := HR6.out
            rw [z1] at r0
            go_wp2_with fail
            go_ret
            exact ⟨rfl, HW6.out.alloc HW6.out.size _⟩
          | ok h h2 vo G hG ho6 =>
            obtain ⟨n1, n2, n3, _, n5, n6, _⟩ := run_known h h2 hG
            have HGG : Hid (eachS l [ins.getD k (0, 0)] ⟨[], [], (p0, p1), (p2, p3), 0⟩ = G) := hid (by rw [HXY.out]; exact hG)
            have HNX := hid (And.intro h (each_next HL.out.eto hlt (fun q => (HL.out.rt q).2) (by rw [HXY.out]; exact h2)))
            have HI0 := hid (rgtB_i64 n5)
            have HI1 := hid (rgtB_i64 n6)
            obtain ⟨Ag, cg, rfl⟩ := own_form ho6
            have HNIL := hid (own_nil ho6)
            have hb7 := (Below.refl w6.heap.size w6).alloc (Nat.le_refl _) (.cells #[.slice Ag G.out.length cg, .int .i64 G.c0.1, .int .i64 G.c0.2, .int .i64 G.c1.1, .int .i64 G.c1.2, .int .i64 G.n] 29)
            have hb67 := HB6.out.trans (hb7.mono HB6.out.size)
            have HRG := hid (Res6.new w6 (.slice Ag G.out.length cg) G.c0.1 G.c0.2 G.c1.1 G.c1.2 G.n 29)
            have HC7 : Hid (∀ ad, Ag = some ad → ∀ j u, (insCells G.out)[j]? = some u → (w6.alloc (.cells #[.slice Ag G.out.length cg, .int .i64 G.c0.1, .int .i64 G.c0.2, .int .i64 G.c1.1, .int .i64 G.c1.2, .int .i64 G.n] 29)).cell? (ad.add j) = some u) := hid (SlV.cells (SlV.of_own (own_below ho6 hb7)))
            have HO7 := hid (own_below HL.out.own hb67)
            have HX7 := hid (HL.out.box.below hb67)
            have HBE7 := hid (HL.out.bel.trans (hb67.mono (Nat.le_of_lt HL.out.box.lt)))
            have HS7 : Hid (wr.heap.size ≤ w6.heap.size) := hid HB6.out.size
            have hbs : g + 1 ≤ (w6.alloc (.cells #[.slice Ag G.out.length cg, .int .i64 G.c0.1, .int .i64 G.c0.2, .int .i64 G.c1.1, .int .i64 G.c1.2, .int .i64 G.n] 29)).heap.size := by
              rw [World.size_alloc]; have := HS7.out; omega
            have hro : ro.length ≤ 160 := by have := HL.out.sz.1; omega
            have hrn : rn ≤ 1000000 := by have := HL.out.sz.2; omega
            have hgo : G.out.length ≤ 4 := n3
            have hw := each_wrap HL.out.hN hrn (m := G.n) (by omega)
            obtain ⟨i0, hi, hz0, hz1, hz2⟩ := info_parts valInfo
            have HSZ : Hid (G.out.length ≤ 4 ∧ G.n ≤ 24) := hid ⟨n3, by omega⟩
            clear hb7 hb67 ho6 h h2 hG n1 n2 n3 n5 n6
            go_wp2_with (at_builtin; refine wpList_append_maybe rfl _ _ 26 rfl (g + 1) 24 i0 (.agg #[.int .i64 0, .int .i64 0]) 2 16 Tryd.underlying26 hi hz0 hz1 hz2 rfl (by decide) (.slice Av ro.length cv) ro.length (insCells ro) rfl HO7.out Ag G.out.length cg (insCells G.out) rfl HNIL.out (insCells_len _) HC7.out (insCells_one _) (by unfold maxLen; omega) (by omega) hbs ?_; intro v' w8 hown8 hg8; obtain ⟨A8, c8, rfl⟩ := own_form hown8; have HO8 := hid hown8; have HG8 := hid hg8; have HR8 := hid (HRG.out.grown hg8 (fun q => by have := (HL.out.own.lt _ q.symm).2; have := HS7.out; omega)); have HX8 := hid (HX7.out.keep (hg8.block g HX7.out.lt (fun q => by have := (HL.out.own.lt _ q.symm).1; omega)) hg8.size); have HBE8 := hid (HBE7.out.grown hg8 (Nat.le_trans (Nat.le_succ g) hbs) (fun k hk => by have := (HL.out.own.lt _ hk).1; omega)); have ⟨l8, s0, s1, s2, s3, s4, s5⟩ := HR8.out; have ⟨_, t0, t1, t2, t3, tf⟩ := HX8.out; clear hown8 hg8)
            have hown : (set4 w8 g G.c0.1 G.c0.2 G.c1.1 G.c1.2).ownsRow (g + 1) 24 2 (.slice A8 (ro ++ G.out).length c8) (ro ++ G.out).length (insCells (ro ++ G.out)) := by
              rw [List.length_append, insCells_append]
              exact HO8.out.kept (HX8.out.put _ _ _ _).2 (own_ne HO8.out (Nat.lt_succ_self g))
            go_roundw
            case rel =>
              refine ⟨k + 1, ro ++ G.out, rn + G.n, N + (G.n : Int), G.c0.1, G.c0.2, G.c1.1, G.c1.2, A8, c8, by omega, by rw [List.length_append], by rw [hw], by go_num, hid ⟨?_, HL.out.eto.step hlt HGG.out, ?_, fun _ => HNX.out, HI0.out, HI1.out, set4_below HBE8.out (Nat.le_refl _) _ _ _ _, (HX8.out.put _ _ _ _).1, hown⟩⟩
              · have := HL.out.hN; omega
              · have := HL.out.sz; have := HSZ.out; rw [List.length_append]; omega
            case measure => simp [RowKit.intOf] <;> omega
        · have hke : k = ins.length := by omega
          have hend := each_end HKN.out (by have := HL.out.eto; rw [hke] at this; exact this) (by have := HL.out.rt; rw [hke] at this; exact this)
          have ⟨l6, r0, r1, r2, r3, r4, r5⟩ := HR.out
          rcases hend with ⟨rfl, rfl, rfl, e0, e1⟩ | ⟨hee, z1, rfl⟩
          · injection e0 with e00 e01
            injection e1 with e10 e11
            subst e00; subst e01; subst e10; subst e11
            obtain ⟨Nn, hNn⟩ : ∃ Nn : Int, (rn : Int) = Nn := ⟨_, rfl⟩
            have hNe : Nn = N := by rw [← hNn]; exact HL.out.hN
            subst hNe
            rw [hNn] at r5
            have HNn := hid hNn
            have hsz : Oa.length ≤ 1000000000 := by have := HL.out.sz.1; omega
            have HSZ := hid hsz
            have ⟨lg, q0, q1, q2, q3, _⟩ := HL.out.box
            simp only at q0 q1 q2 q3
            clear hsz hNn
            go_wp2_with fail
            refine (same_any _ _ Oa Oa true (hid (by simp)) HSZ.out HSZ.out wr (SlV.of_own (own_below HO4.out (HL.out.bel.mono (Nat.le_of_eq HG.out)))) (SlV.of_own HL.out.own)).mono ?_
            rintro e w9 ⟨rfl, hb9⟩
            have HW9 := hid (HWR.out.trans (hb9.mono HWR.out.size))
            have ⟨_, s0, s1, s2, s3, s4, s5⟩ := (HR.out.below (hb9))
            have ⟨_, t0, t1, t2, t3, _⟩ := HL.out.box.below hb9
            simp only at t0 t1 t2 t3
            rw [HNn.out] at s5
            have hq : ∀ w : World, (binOp .eql 25 (.agg #[.int .i64 a0, .int .i64 a1, .int .i64 a2, .int .i64 a3]) (.agg #[.int .i64 a0, .int .i64 a1, .int .i64 a2, .int .i64 a3])).run Tryd.prog w = .ok (.bool true) w := fun w => by
              rw [eql_arr]; simp
            clear hb9 r0 r1 r2 r3 r4 r5 q0 q1 q2 q3
            go_wp2_with fail
            go_ret
            exact ⟨rfl, HW9.out⟩
          · rcases hee with rfl | rfl
            all_goals
              go_wp2_with fail
              go_ret
              exact ⟨rfl, HWR.out⟩

end Go.Proofs.YtfohdoahddommaaDoor
