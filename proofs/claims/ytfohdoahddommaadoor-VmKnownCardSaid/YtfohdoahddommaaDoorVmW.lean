/- Layer 6, vm: VmKnown. -/
import Derived.Test.YtfohdoahddommaaDoorVmV
import Derived.Test.YtfohdoahddommaaDoorRegK
namespace Go.Proofs.YtfohdoahddommaaDoor
open Go.RowKit Go.Lib
set_option linter.unusedVariables false
set_option maxRecDepth 100000

theorem neg_i64 {y : Int} (h : into y = y) : IntKind.i64.wrap (-y) = -y := by
  have := into_ge y; have := into_le y
  rw [h] at *
  rw [IntKind.wrap_i64]; omega

theorem neg_small' {y : Int} (h : into y = y) : wrap64 (-y) = -y := by
  have := into_ge y; have := into_le y
  rw [h] at *
  unfold wrap64; omega

theorem refadd_b (a b c d : Int) (w : World) : Calls Tryd.prog 12 #[val a b, val c d] w fun e w' => e = .returned (val (addV (a, b) (c, d)).1 (addV (a, b) (c, d)).2) ∧ Below w.heap.size w w' := refadd_any a b c d w
theorem refsub_b (a b c d : Int) (w : World) : Calls Tryd.prog 13 #[val a b, val c d] w fun e w' => e = .returned (val (subV (a, b) (c, d)).1 (subV (a, b) (c, d)).2) ∧ Below w.heap.size w w' := refsub_any a b c d w
theorem refmul_b (a b c d : Int) (w : World) : Calls Tryd.prog 14 #[val a b, val c d] w fun e w' => e = .returned (val (mulV (a, b) (c, d)).1 (mulV (a, b) (c, d)).2) ∧ Below w.heap.size w w' := refmul_any a b c d w

theorem iterSeen_at {w : World} {r : Nat} {m : Option Nat} {a c : Nat} {s : Array Nat} (h : w.heap[r]? = some (.mapIter m a s c)) : w.iterSeen r = s := by
  unfold World.iterSeen; rw [h]

/-- A step through such a map. -/
theorem kn_next {Rt : Value → Value → Prop} {w wr : World} {B r bm clk : Nat} {seen : Array Nat} {es : Array MapEntry} (hM : MapOf Rt wr bm es clk) (hr : wr.heap[r]? = some (.mapIter (some bm) clk seen clk)) (hne : bm ≠ r) (hb : Below B w wr) (hB : B ≤ r) :
    (∀ ty, (Instr.next (.pointer (some ⟨r, 0, none⟩)) false ty).run Tryd.prog wr = .ok (.tuple #[.bool false]) wr) ∨
    ∃ (e : MapEntry) (w2 : World), e ∈ (leftOf es seen).toList ∧ Rt e.key e.val ∧ (∀ ty, (Instr.next (.pointer (some ⟨r, 0, none⟩)) false ty).run Tryd.prog wr = .ok (.tuple #[.bool true, e.key, e.val]) w2) ∧ (Instr.entry (.pointer (some ⟨r, 0, none⟩))).run Tryd.prog w2 = .ok (.tuple #[e.key, e.val]) w2 ∧ w2.heap[r]? = some (.mapIter (some bm) clk (seen.push e.born) clk) ∧ MapOf Rt w2 bm es clk ∧ Below B w w2 := by
  by_cases h0 : ∃ ty, ∃ e ∈ (leftOf es seen).toList, ∃ w1 : World, (w1 = wr ∨ w1 = wr.drew) ∧ (Instr.next (.pointer (some ⟨r, 0, none⟩)) false ty).run Tryd.prog wr = .ok (.tuple #[.bool true, e.key, e.val]) (Go.ChangeMaps.setBlock w1 r (.mapIter (some bm) clk (seen.push e.born) clk))
  · right
    obtain ⟨ty, e, he, w1, hw, hrun⟩ := h0
    have hr1 : w1.heap[r]? = some (.mapIter (some bm) clk seen clk) := by rcases hw with rfl | rfl <;> exact hr
    have hb1 : w1.heap[bm]? = some (.map es clk) := by rcases hw with rfl | rfl <;> exact hM.blk
    have hbl : Below B w w1 := by
      rcases hw with rfl | rfl
      · exact hb
      · exact hb.drew
    have hlt : r < w1.heap.size := (Array.getElem?_eq_some_iff.1 hr1).1
    have q1 : (Go.ChangeMaps.setBlock w1 r (.mapIter (some bm) clk (seen.push e.born) clk)).heap[r]? = some (.mapIter (some bm) clk (seen.push e.born) clk) := by simp [Go.ChangeMaps.setBlock, hlt]
    have qo : ∀ i, i ≠ r → (Go.ChangeMaps.setBlock w1 r (.mapIter (some bm) clk (seen.push e.born) clk)).heap[i]? = w1.heap[i]? := fun i hi => by
      unfold Go.ChangeMaps.setBlock
      exact Array.getElem?_setIfInBounds_ne (Ne.symm hi)
    have q2 := (qo bm hne).trans hb1
    have hg : w1.grownBy (Go.ChangeMaps.setBlock w1 r (.mapIter (some bm) clk (seen.push e.born) clk)) (some r) := ⟨rfl, rfl, rfl, by simp [Go.ChangeMaps.setBlock], fun i _ hi => qo i (fun e => hi (by rw [e]))⟩
    refine ⟨e, _, he, hM.rt e (mem_left he).1, fun ty' => ?_, ?_, q1, ⟨q2, hM.born, hM.once, hM.rt⟩, hbl.grown hg (by omega) (fun k hk => by injection hk with hk; omega)⟩
    · exact hrun
    · exact run_entry_at _ r bm clk seen es clk e q1 q2 (mem_left he).1 hM.once
  · left
    intro ty
    rcases run_next_at (P := Tryd.prog) wr ty r bm clk clk seen es clk hr hM.blk hM.born (Nat.le_refl _) with ⟨_, h⟩ | h
    · exact h
    · exact absurd ⟨ty, h⟩ h0

/-- While the map is gone through. -/
structure KnLp (a b : Int × Int) (W wr : World) (B r bm clk : Nat) (es : Array MapEntry) (seen : Array Nat) : Prop where
  itr : wr.heap[r]? = some (.mapIter (some bm) clk seen clk)
  map : MapOf (KnRt a b) wr bm es clk
  bel : Below B W wr

theorem lit4 (w : World) (a b c d e f g h : Int) (t : TypeId) :
    SlV (w.alloc (.cells #[.int .i64 a, .int .i64 b, .int .i64 c, .int .i64 d, .int .i64 e, .int .i64 f, .int .i64 g, .int .i64 h] t)) (w.alloc (.cells #[.int .i64 a, .int .i64 b, .int .i64 c, .int .i64 d, .int .i64 e, .int .i64 f, .int .i64 g, .int .i64 h] t)).heap.size (.slice (some ⟨w.heap.size, 0, none⟩) 4 4) [(a, b), (c, d), (e, f), (g, h)] := by
  refine ⟨_, _, rfl, Nat.le_refl _, fun _ => ⟨_, 0, rfl, by simp, fun j hj => ?_⟩⟩
  match j, hj with
  | 0, _ => exact ⟨by simp [World.cell?_alloc_new], by simp [World.cell?_alloc_new]⟩
  | 1, _ => exact ⟨by simp [World.cell?_alloc_new], by simp [World.cell?_alloc_new]⟩
  | 2, _ => exact ⟨by simp [World.cell?_alloc_new], by simp [World.cell?_alloc_new]⟩
  | 3, _ => exact ⟨by simp [World.cell?_alloc_new], by simp [World.cell?_alloc_new]⟩

theorem kn_res {l : List (Int × Int)} {c0 c1 want : Int × Int} {ins : List (Int × Int)} {B : Nat} {w : World} {v : Value} {Pf : VmS → Prop} (h : EachIs l c0 c1 ins B w v) (hc : (chk l).isSome = true) (hr : (rgtB c0 && rgtB c1 && ins.all rgtB) = true)
    (hF : ∃ F, eachS l ins ⟨[], [], c0, c1, 0⟩ = F ∧ F.out = [want] ∧ Pf F) : ∃ (b o c : Nat) (F : VmS), v = .tuple #[resV (.slice (some ⟨b, o, none⟩) 1 c) F.c0.1 F.c0.2 F.c1.1 F.c1.2 F.n, .int .i64 0] ∧ b < w.heap.size ∧ w.cell? ⟨b, o, none⟩ = some (.int .i64 want.1) ∧ w.cell? ⟨b, o + 1, none⟩ = some (.int .i64 want.2) ∧ Pf F := by
  cases h with
  | code h => rw [hc] at h; cases h
  | arg h h2 => rw [hr] at h2; cases h2
  | ok h h2 vo F hG ho =>
    obtain ⟨F', e1, e2, e3⟩ := hF
    have e4 : F' = F := e1.symm.trans hG
    subst e4
    have hs := SlV.of_own ho
    rw [e2] at hs
    obtain ⟨A, c, rfl, hc2, hA⟩ := hs
    obtain ⟨b, o, rfl, hb, hz⟩ := hA (by simp)
    obtain ⟨z0, z1⟩ := hz 0 (by simp)
    exact ⟨b, o, c, F', rfl, hb, by simpa using z0, by simpa using z1, e3⟩

theorem rgtB_of {a : Int × Int} (h : Rgt a) : rgtB a = true := (rgtB_iff a).2 h
theorem rgtB_00 : rgtB (0, 0) = true := by first | decide +kernel | (rw [rgtB_iff]; decide) | (unfold rgtB; decide) | (simp [rgtB_iff, Rgt])
theorem i64_0 : I64 0 := by first | decide | (unfold I64; omega) | exact ⟨by decide, by decide⟩


def slots13 (n : Int) (g gr b6 o6 c6 : Nat) (x y m1 m2 : Int) : List Ks :=
  let t : Ks := .is (.bool true)
  let sl : Ks := .is (.slice (some ⟨b6, o6, none⟩) 1 c6)
  let pr : Ks := .is (.pointer (some ⟨gr, 0, none⟩))
  [.any, .any, .is (.int .i64 n), .is (.pointer (some ⟨g, 0, none⟩)), .any, .any, t] ++ List.replicate 6 .any ++ [pr, .is (.int .i64 0)] ++ List.replicate 100 .any ++
  [.is (.int .i64 0), t, t, pr, sl, .is (.int .i64 1), t, t, t, pr, sl, .is (.pointer (some ⟨b6, o6, none⟩)), .is (val m1 m2), .is (.int .i64 n), .is (val n 0), .is (val x y), .is (val m1 m2), t, t]

set_option maxHeartbeats 4000000 in
theorem law_known (x y x' y' n : Int) (w : World) (hx : (Lit.int .i64 x).wf = true) (hy : (Lit.int .i64 y).wf = true) (hx' : (Lit.int .i64 x').wf = true) (hy' : (Lit.int .i64 y').wf = true) (hn : (Lit.int .i64 n).wf = true) (he : Env4 w) :
    Calls Tryd.prog 5 #[val x y, val x' y', .int .i64 n] w fun e w' => e = .returned (.bool true) ∧ Below w.heap.size w w' := by
  have HXY := hid (i64_both hx hy); have HXY' := hid (i64_both hx' hy'); have HE := hid he
  clear hx hy hx' hy' he hn
  obtain ⟨W, hW, ⟨k0, k1, q0, q1⟩, ⟨l1, l2⟩, _, HB⟩ := cells2 w (.int .i64 x) (.int .i64 y) (.int .i64 x') (.int .i64 y') 24
  go_enter Tryd.func5, Tryd.ntmps5
  go_wp2_with fail
  clear hW
  refine (awake6 W (HE.out.below HB.out)).mono ?_
  rintro e w1 ⟨rfl, hb⟩
  obtain ⟨hc, _⟩ := bcell hb
  have k0 := (hc _ _ l1).trans k0; have k1 := (hc _ _ l1).trans k1; have q0 := (hc _ _ l2).trans q0; have q1 := (hc _ _ l2).trans q1
  have l1 := Nat.lt_of_lt_of_le l1 hb.size; have l2 := Nat.lt_of_lt_of_le l2 hb.size
  have HB1 := hid (HB.out.trans (hb.mono HB.out.size))
  clear hc hb HB
  go_wp2_with fail
  obtain ⟨β, hβ⟩ : ∃ β, rgtB (x, y) = β := ⟨_, rfl⟩
  refine (lright_any x y β (hid hβ) w1).mono ?_
  rintro e w2 ⟨rfl, hb⟩
  obtain ⟨hc, _⟩ := bcell hb
  have k0 := (hc _ _ l1).trans k0; have k1 := (hc _ _ l1).trans k1; have q0 := (hc _ _ l2).trans q0; have q1 := (hc _ _ l2).trans q1
  have l1 := Nat.lt_of_lt_of_le l1 hb.size; have l2 := Nat.lt_of_lt_of_le l2 hb.size
  have HB2 := hid (HB1.out.trans (hb.mono HB1.out.size))
  clear hc hb HB1
  cases β with
  | false =>
    go_wp2_with fail
    go_ret
    exact ⟨rfl, HB2.out⟩
  | true =>
    have HR := hid ((rgtB_iff _).1 hβ)
    clear hβ
    go_wp2_with fail
    obtain ⟨γ, hγ⟩ : ∃ γ, rgtB (x', y') = γ := ⟨_, rfl⟩
    refine (lright_any x' y' γ (hid hγ) w2).mono ?_
    rintro e w3 ⟨rfl, hb⟩
    obtain ⟨hc, _⟩ := bcell hb
    have k0 := (hc _ _ l1).trans k0; have k1 := (hc _ _ l1).trans k1; have q0 := (hc _ _ l2).trans q0; have q1 := (hc _ _ l2).trans q1
    have l1 := Nat.lt_of_lt_of_le l1 hb.size; have l2 := Nat.lt_of_lt_of_le l2 hb.size
    have HB3 := hid (HB2.out.trans (hb.mono HB2.out.size))
    clear hc hb HB2
    cases γ with
    | false =>
      go_wp2_with fail
      go_ret
      exact ⟨rfl, HB3.out⟩
    | true =>
      have HR' := hid ((rgtB_iff _).1 hγ)
      clear hγ
      by_cases hlo : n < -524288
      · go_wp2_with fail
        go_ret
        exact ⟨rfl, HB3.out⟩
      · by_cases hhi : 524288 ≤ n
        · go_wp2_with fail
          go_ret
          exact ⟨rfl, HB3.out⟩
        · have HNN : Hid (-524288 ≤ n ∧ n ≤ 524287) := hid ⟨by omega, by omega⟩
          go_wp2_with fail
          obtain ⟨g, hg⟩ : ∃ g, w.heap.size = g := ⟨_, rfl⟩
          rw [hg] at k0 k1 q0 q1 l1 l2
          simp only [hg]
          have HG := hid hg
          clear hg
          have hneg := neg_i64 HR.out.2
          have hneg2 := neg_small' HR.out.2
          have hmm := @run_makeMap Tryd.prog
          refine region_rel (R := KnR (x, y) (x', y')) (T := fun k => ((slotsKn g x y x' y' n).getD k .any).ok w3.heap.size (x, y) (x', y')) (G := fun w' => Hid (Below w3.heap.size w3 w')) (J := fun _ _ => True) (bs := [2, 3, 4]) 134 27 8 (by kernel_rfl) rfl (by kernel_rfl) (by kernel_rfl) (fun k u w w' => Km.stable _ _ _ _ u w w') (hid (Below.refl _ _).drew) trivial ?_ ?_ ?_
          · refine List.forall_mem_cons.2 ⟨rfl, List.forall_mem_cons.2 ⟨rfl, List.forall_mem_cons.2 ⟨rfl, ?_⟩⟩⟩
            intro k hk; cases hk
          · repeat' (first | exact StepsR.nil | refine StepsR.cons ?_ ?_)
            all_goals refine ⟨guard_none rfl, ?_⟩
            all_goals intro K a w' hK hG hJ H
            all_goals obtain ⟨hc, hf⟩ := bcell hG.out
            all_goals first
              | (obtain ⟨h1, h2, -⟩ := H; change a.tmps.getD _ undef = _ at h1; have g1 := h1; rw [Array.getD_eq_getD_getElem?] at g1; change a.tmps.getD _ undef = _ at h2; have g2 := h2; rw [Array.getD_eq_getD_getElem?] at g2)
              | (obtain ⟨⟨gm, h1, hgm, hM⟩, h2, -⟩ := H; change a.tmps.getD _ undef = _ at h1; have g1 := h1; rw [Array.getD_eq_getD_getElem?] at g1; change a.tmps.getD _ undef = _ at h2; have g2 := h2; rw [Array.getD_eq_getD_getElem?] at g2)
              | (obtain ⟨h1, -⟩ := H; change a.tmps.getD _ undef = _ at h1; have g1 := h1; rw [Array.getD_eq_getD_getElem?] at g1)
              | skip
            all_goals first
              | (refine wp_insert_kn (a := (x, y)) (b := (x', y')) _ _ _ rfl gm h1 hM ⟨#[73, 78, 59, 32, 76, 79, 65, 68, 32, 49, 59, 32, 65, 68, 68, 59, 32, 69, 77, 73, 84]⟩ (addV (x, y) (x', y')) rfl h2 (by decide) (by unfold knownL; exact List.mem_cons_self) (fun w'' r1 r2 => hK _ _ (fun d hd => by cases hd) (hid (hG.out.grown r2 hG.out.size (fun k hk => by injection hk with hk; omega))) (KnR.of_put r1 r2) trivial))
              | (refine wp_insert_kn (a := (x, y)) (b := (x', y')) _ _ _ rfl gm h1 hM ⟨#[73, 78, 59, 32, 76, 79, 65, 68, 32, 49, 59, 32, 83, 85, 66, 59, 32, 69, 77, 73, 84]⟩ (subV (x, y) (x', y')) rfl h2 (by decide) (by unfold knownL; exact List.mem_cons_of_mem _ List.mem_cons_self) (fun w'' r1 r2 => hK _ _ (fun d hd => by cases hd) (hid (hG.out.grown r2 hG.out.size (fun k hk => by injection hk with hk; omega))) (KnR.of_put r1 r2) trivial))
              | (refine wp_insert_kn (a := (x, y)) (b := (x', y')) _ _ _ rfl gm h1 hM ⟨#[73, 78, 59, 32, 76, 79, 65, 68, 32, 49, 59, 32, 77, 85, 76, 59, 32, 69, 77, 73, 84, 59, 32, 72, 65, 76, 84, 59, 32, 73, 78]⟩ (mulV (x, y) (x', y')) rfl h2 (by decide) (by unfold knownL; exact List.mem_cons_of_mem _ (List.mem_cons_of_mem _ List.mem_cons_self)) (fun w'' r1 r2 => hK _ _ (fun d hd => by cases hd) (hid (hG.out.grown r2 hG.out.size (fun k hk => by injection hk with hk; omega))) (KnR.of_put r1 r2) trivial))
              | (refine wp_insert_kn (a := (x, y)) (b := (x', y')) _ _ _ rfl gm h1 hM ⟨#[73, 78, 59, 32, 84, 85, 82, 78, 59, 32, 69, 77, 73, 84]⟩ (into (-y), into x) rfl h2 (by decide) (by unfold knownL; exact List.mem_cons_of_mem _ (List.mem_cons_of_mem _ (List.mem_cons_of_mem _ List.mem_cons_self))) (fun w'' r1 r2 => hK _ _ (fun d hd => by cases hd) (hid (hG.out.grown r2 hG.out.size (fun k hk => by injection hk with hk; omega))) (KnR.of_put r1 r2) trivial))
              | (refine wp_insert_kn (a := (x, y)) (b := (x', y')) _ _ _ rfl gm h1 hM ⟨#[74, 77, 80, 32, 49, 59, 32, 76, 79, 65, 68, 32, 48, 59, 32, 73, 78, 59, 32, 67, 79, 78, 74, 59, 32, 69, 77, 73, 84]⟩ (into x, into (-y)) rfl h2 (by decide) (by unfold knownL; exact List.mem_cons_of_mem _ (List.mem_cons_of_mem _ (List.mem_cons_of_mem _ (List.mem_cons_of_mem _ List.mem_cons_self)))) (fun w'' r1 r2 => hK _ _ (fun d hd => by cases hd) (hid (hG.out.grown r2 hG.out.size (fun k hk => by injection hk with hk; omega))) (KnR.of_put r1 r2) trivial))
              | skip
            all_goals go_simp
            all_goals first
              | (go_at_call 12; (with_reducible refine (refadd_b x y x' y' _).mono ?_); (rintro e w'' ⟨rfl, hb⟩; exact hK _ _ (fun d hd => by cases hd; exact rfl) (hid (hG.out.trans (hb.mono hG.out.size))) (KnR.of_below hb) trivial))
              | (go_at_call 13; (with_reducible refine (refsub_b x y x' y' _).mono ?_); (rintro e w'' ⟨rfl, hb⟩; exact hK _ _ (fun d hd => by cases hd; exact rfl) (hid (hG.out.trans (hb.mono hG.out.size))) (KnR.of_below hb) trivial))
              | (go_at_call 14; (with_reducible refine (refmul_b x y x' y' _).mono ?_); (rintro e w'' ⟨rfl, hb⟩; exact hK _ _ (fun d hd => by cases hd; exact rfl) (hid (hG.out.trans (hb.mono hG.out.size))) (KnR.of_below hb) trivial))
              | (go_at_call 15; (with_reducible refine (refof_val _ _ _).mono ?_); (rintro e w'' ⟨rfl, hb⟩; exact hK _ _ (fun d hd => by cases hd; exact rfl) (hid (hG.out.trans (hb.mono hG.out.size))) (KnR.of_below hb) trivial))
              | exact hK _ _ (fun d hd => by cases hd; exact rfl) hG (KnR.of_below (Below.refl _ _)) trivial
              | exact hK _ _ (fun d hd => by cases hd; exact ⟨_, rfl, hG.out.size, MapRt.new _⟩) (hid (hG.out.alloc hG.out.size _)) (KnR.of_below ((Below.refl _ _).alloc (Nat.le_refl _) _)) trivial
              | done
          · intro a w' hd hn hG hJ hkeep hval
            have h2 : a.tmps.getD 2 undef = _ := hkeep 2 (by decide) (not_written (by kernel_rfl))
            have h3 : a.tmps.getD 3 undef = _ := hkeep 3 (by decide) (not_written (by kernel_rfl))
            have h4 : a.tmps.getD 4 undef = _ := hkeep 4 (by decide) (not_written (by kernel_rfl))
            obtain ⟨bm, h33, hbm, es, clk, hM⟩ := hval 33 (by kernel_rfl)
            clear hval hkeep
            obtain ⟨u, hu⟩ : ∃ u : Nat → Value, u = fun k => a.tmps.getD k undef := ⟨_, rfl⟩
            have ha : a = ⟨(u 0 :: u 1 :: u 2 :: u 3 :: u 4 :: u 5 :: u 6 :: u 7 :: u 8 :: u 9 :: u 10 :: u 11 :: u 12 :: u 13 :: u 14 :: u 15 :: u 16 :: u 17 :: u 18 :: u 19 :: u 20 :: u 21 :: u 22 :: u 23 :: u 24 :: u 25 :: u 26 :: u 27 :: u 28 :: u 29 :: u 30 :: u 31 :: u 32 :: u 33 :: u 34 :: u 35 :: u 36 :: u 37 :: u 38 :: u 39 :: u 40 :: u 41 :: u 42 :: u 43 :: u 44 :: u 45 :: u 46 :: u 47 :: u 48 :: u 49 :: u 50 :: u 51 :: u 52 :: u 53 :: u 54 :: u 55 :: u 56 :: u 57 :: u 58 :: u 59 :: u 60 :: u 61 :: u 62 :: u 63 :: u 64 :: u 65 :: u 66 :: u 67 :: u 68 :: u 69 :: u 70 :: u 71 :: u 72 :: u 73 :: u 74 :: u 75 :: u 76 :: u 77 :: u 78 :: u 79 :: u 80 :: u 81 :: u 82 :: u 83 :: u 84 :: u 85 :: u 86 :: u 87 :: u 88 :: u 89 :: u 90 :: u 91 :: u 92 :: u 93 :: u 94 :: u 95 :: u 96 :: u 97 :: u 98 :: u 99 :: u 100 :: u 101 :: u 102 :: u 103 :: u 104 :: u 105 :: u 106 :: u 107 :: u 108 :: u 109 :: u 110 :: u 111 :: u 112 :: u 113 :: u 114 :: u 115 :: u 116 :: u 117 :: u 118 :: u 119 :: u 120 :: u 121 :: u 122 :: u 123 :: u 124 :: u 125 :: u 126 :: u 127 :: u 128 :: u 129 :: u 130 :: u 131 :: u 132 :: u 133 :: []).toArray, a.defers⟩ := by
              rw [hu]; exact frame_eq hn
            have e2 : u 2 = .int .i64 n := (congrFun hu 2).trans h2
            have e3 : u 3 = .pointer (some ⟨g, 0, none⟩) := (congrFun hu 3).trans h3
            have e4 : u 4 = .pointer (some ⟨g + 1, 0, none⟩) := (congrFun hu 4).trans h4
            have e33 : u 33 = .map (some bm) := (congrFun hu 33).trans h33
            rw [e2, e3, e4, e33, hd] at ha
            clear hd hn h2 h3 h4 h33 hu
            subst ha
            clear e2 e3 e4 e33
            have hrg := run_range_map (P := Tryd.prog) w' 42 9 24 bm es clk Tryd.underlying42 hM.blk
            have HBB := hid hbm
            have HM := hid hM
            have HWG : Hid (Below w.heap.size w w') := hid (HB3.out.trans (hG.out.mono HB3.out.size))
            have k0 := ((bcell hG.out).1 _ _ l1).trans k0
            have k1 := ((bcell hG.out).1 _ _ l1).trans k1
            have q0 := ((bcell hG.out).1 _ _ l2).trans q0
            have q1 := ((bcell hG.out).1 _ _ l2).trans q1
            have l1 := Nat.lt_of_lt_of_le l1 hG.out.size
            have l2 := Nat.lt_of_lt_of_le l2 hG.out.size
            have HLP : Hid (KnLp (x, y) (x', y') w' (w'.alloc (.mapIter (some bm) clk #[] clk)) w'.heap.size w'.heap.size bm clk es #[]) := hid ⟨(Go.MapKept.heap_alloc w' _).1, ⟨((Go.MapKept.heap_alloc w' _).2 bm (MapRt.lt ⟨es, clk, HM.out⟩)).trans HM.out.blk, HM.out.born, HM.out.once, HM.out.rt⟩, (Below.refl _ _).alloc (Nat.le_refl _) _⟩
            have HNE : Hid (bm < w'.heap.size) := hid (MapRt.lt ⟨es, clk, HM.out⟩)
            clear hM hbm hJ hneg hneg2 hmm hG HM
            show wpOp _ _ _ 27 (wpRest _ _ _ [28]) _ _
            refine wpOp_one rfl rfl ?_
            go_simp
            show wpOp _ _ _ 28 (wpRest _ _ _ []) _ _
            refine wpOp_one rfl rfl ?_
            go_simp
            unfold wpRest
            clear hrg
            obtain ⟨W6, hW6⟩ : ∃ W6, w'.alloc (.mapIter (some bm) clk #[] clk) = W6 := ⟨_, rfl⟩
            rw [hW6] at HLP ⊢
            clear hW6
            obtain ⟨r, hrr⟩ : ∃ r, w'.heap.size = r := ⟨_, rfl⟩
            rw [hrr] at HLP HNE l1 l2 ⊢
            have HRR := hid hrr
            clear hrr
            go_wp2_with fail
            go_loopw [7] (fun _ wr => ∃ seen : Array Nat, Hid (KnLp (x, y) (x', y') w' wr r r bm clk es seen)) (fun _ wr => (leftOf es (wr.iterSeen r)).size)
            case atStart => exact ⟨#[], HLP⟩
            case round =>
              obtain ⟨seen, HL⟩ := hrel
              have HIT := hid (iterSeen_at HL.out.itr)
              rcases kn_next (w := w') (B := r) HL.out.map HL.out.itr (Nat.ne_of_lt HNE.out) HL.out.bel (Nat.le_refl _) with hnx | ⟨e, w2, he, ⟨S, want, hek, hev, hin, hS⟩, hnx, hen, hit, hM2, hb2⟩
              · have k0 := (HL.out.bel.cell (p := ⟨g, 0, none⟩) l1).trans k0
                have k1 := (HL.out.bel.cell (p := ⟨g, 1, none⟩) l1).trans k1
                have HWR : Hid (Below w.heap.size w wr) := hid (HWG.out.trans (HL.out.bel.mono (by have := HWG.out.size; have := HRR.out; omega)))
                have l1 := Nat.lt_of_lt_of_le l1 (Nat.le_trans (Nat.le_of_eq HRR.out.symm) HL.out.bel.size)
                clear q0 q1
                have HS4 := hid (lit4 wr 1 n 3 0 8 0 14 0 37)
                have hb4 := (Below.refl wr.heap.size wr).alloc (Nat.le_refl _) (.cells #[.int .i64 1, .int .i64 n, .int .i64 3, .int .i64 0, .int .i64 8, .int .i64 0, .int .i64 14, .int .i64 0] 37)
                have HB4 := hid hb4
                have HW4 := hid (HWR.out.trans (hb4.mono HWR.out.size))
                clear hb4
                go_wp2_with fail
                obtain ⟨W4, hW4⟩ : ∃ W4, wr.alloc (.cells #[.int .i64 1, .int .i64 n, .int .i64 3, .int .i64 0, .int .i64 8, .int .i64 0, .int .i64 14, .int .i64 0] 37) = W4 := ⟨_, rfl⟩
                rw [hW4] at HS4 HB4 HW4 ⊢
                clear hW4
                have k0 := (HB4.out.cell (p := ⟨g, 0, none⟩) l1).trans k0
                have k1 := (HB4.out.cell (p := ⟨g, 1, none⟩) l1).trans k1
                have l1 := Nat.lt_of_lt_of_le l1 HB4.out.size
                refine (vrun_any _ _ (by simp) x y 0 0 0 0 HXY.out ⟨i64_0, i64_0⟩ ⟨i64_0, i64_0⟩ _ HS4.out).mono ?_
                rintro e w6 ⟨⟨rv, rfl, hrv⟩, hb6⟩
                have hpu := known_push HR.out HNN.out.1 HNN.out.2
                obtain ⟨b6, o6, c6, F, rfl, lb, z0, z1, -⟩ := kn_res (Pf := fun _ => True) hrv hpu.1 (by simp [rgtB_of HR.out, rgtB_00]) (by obtain ⟨F, f1, f2⟩ := hpu.2; exact ⟨F, f1, f2, trivial⟩)
                have k0 := (hb6.cell (p := ⟨g, 0, none⟩) l1).trans k0
                have k1 := (hb6.cell (p := ⟨g, 1, none⟩) l1).trans k1
                have l1 := Nat.lt_of_lt_of_le l1 hb6.size
                have HW6 := hid (HW4.out.trans (hb6.mono HW4.out.size))
                clear hb6 hrv hpu HS4 HB4 HW4
                obtain ⟨m1, m2, hmv⟩ := pair_of (p := mulV (n, 0) (x, y))
                rw [hmv] at z0 z1
                simp only at z0 z1
                have hb4 := (Below.refl w6.heap.size w6).alloc (Nat.le_refl _) (.cells #[.slice (some ⟨b6, o6, none⟩) 1 c6, .int .i64 F.c0.1, .int .i64 F.c0.2, .int .i64 F.c1.1, .int .i64 F.c1.2, .int .i64 F.n] 29)
                have HR6 := hid (Res6.new w6 (.slice (some ⟨b6, o6, none⟩) 1 c6) F.c0.1 F.c0.2 F.c1.1 F.c1.2 F.n 29)
                have HB6 := hid hb4
                have HMV := hid hmv
                clear hb4 hmv
                go_wp2_with fail
                obtain ⟨W10, hW⟩ : ∃ W10, w6.alloc (.cells #[.slice (some ⟨b6, o6, none⟩) 1 c6, .int .i64 F.c0.1, .int .i64 F.c0.2, .int .i64 F.c1.1, .int .i64 F.c1.2, .int .i64 F.n] 29) = W10 := ⟨_, rfl⟩
                rw [hW] at HR6 HB6 ⊢
                clear hW
                obtain ⟨gr, hgr⟩ : ∃ gr, w6.heap.size = gr := ⟨_, rfl⟩
                have k0 := (HB6.out.cell (p := ⟨g, 0, none⟩) l1).trans k0
                have k1 := (HB6.out.cell (p := ⟨g, 1, none⟩) l1).trans k1
                have z0 := (HB6.out.cell (p := ⟨b6, o6, none⟩) lb).trans z0
                have z1 := (HB6.out.cell (p := ⟨b6, o6 + 1, none⟩) lb).trans z1
                have l1 := Nat.lt_of_lt_of_le l1 HB6.out.size
                have lb := Nat.lt_of_lt_of_le lb HB6.out.size
                have HW10 := hid (HW6.out.trans (HB6.out.mono HW6.out.size))
                rw [hgr] at HR6 ⊢
                have lr := HR6.out.lt
                have r0 := HR6.out.r0
                clear hgr HB6 HW6 HR6
                have hq : ∀ w : World, (binOp .eql 24 (val m1 m2) (val m1 m2)).run Tryd.prog w = .ok (.bool true) w := fun w => (eql_val m1 m2 m1 m2 w).trans (by simp)
                refine region_all (T := fun k => ((slots13 n g gr b6 o6 c6 x y m1 m2).getD k .any).ok) (G := fun w'' => Hid (Below W10.heap.size W10 w'')) (bs := [2, 3, 13, 14]) 134 (by kernel_rfl) rfl (by kernel_rfl) (fun k u w w' => Ks.stable _ u w w') (hid (Below.refl _ _).drew) ?_ ?_ ?_
                · refine List.forall_mem_cons.2 ⟨rfl, List.forall_mem_cons.2 ⟨rfl, List.forall_mem_cons.2 ⟨rfl, List.forall_mem_cons.2 ⟨rfl, ?_⟩⟩⟩⟩
                  intro k hk; cases hk
                · repeat' (first | exact StepAll.nil | refine StepAll.append ?_ ?_ | refine StepAll.cons ?_ ?_)
                  all_goals first
                    | (refine .inl ⟨guard_none rfl, ?_⟩)
                    | (refine .inl ⟨guard_some rfl rfl (fun u w h => h), ?_⟩)
                  all_goals intro K a w'' hK hG H
                  all_goals obtain ⟨hc, hf⟩ := bcell hG.out
                  all_goals first
                    | (obtain ⟨h1, h2, -⟩ := H; change a.tmps.getD _ undef = _ at h1; have g1 := h1; rw [Array.getD_eq_getD_getElem?] at g1; change a.tmps.getD _ undef = _ at h2; have g2 := h2; rw [Array.getD_eq_getD_getElem?] at g2)
                    | (obtain ⟨h1, -⟩ := H; change a.tmps.getD _ undef = _ at h1; have g1 := h1; rw [Array.getD_eq_getD_getElem?] at g1)
                    | skip
                  all_goals go_simp
                  all_goals first
                    | (go_at_call 14; (with_reducible refine (refmul_b n 0 x y _).mono ?_); (rw [HMV.out]; rintro e w3' ⟨rfl, hb⟩; exact hK _ _ (fun d hd => by cases hd; exact rfl) (hid (hG.out.trans (hb.mono hG.out.size))) hb))
                    | exact hK _ _ (fun d hd => by cases hd; exact rfl) hG (Below.refl _ _)
                    | done
                · intro a w'' hd hn hG hkeep hval
                  have h6 : a.tmps.getD 6 undef = .bool true := hval 6 (by kernel_rfl)
                  clear hval hkeep
                  obtain ⟨u, hu⟩ : ∃ u : Nat → Value, u = fun k => a.tmps.getD k undef := ⟨_, rfl⟩
                  have ha : a = ⟨(u 0 :: u 1 :: u 2 :: u 3 :: u 4 :: u 5 :: u 6 :: u 7 :: u 8 :: u 9 :: u 10 :: u 11 :: u 12 :: u 13 :: u 14 :: u 15 :: u 16 :: u 17 :: u 18 :: u 19 :: u 20 :: u 21 :: u 22 :: u 23 :: u 24 :: u 25 :: u 26 :: u 27 :: u 28 :: u 29 :: u 30 :: u 31 :: u 32 :: u 33 :: u 34 :: u 35 :: u 36 :: u 37 :: u 38 :: u 39 :: u 40 :: u 41 :: u 42 :: u 43 :: u 44 :: u 45 :: u 46 :: u 47 :: u 48 :: u 49 :: u 50 :: u 51 :: u 52 :: u 53 :: u 54 :: u 55 :: u 56 :: u 57 :: u 58 :: u 59 :: u 60 :: u 61 :: u 62 :: u 63 :: u 64 :: u 65 :: u 66 :: u 67 :: u 68 :: u 69 :: u 70 :: u 71 :: u 72 :: u 73 :: u 74 :: u 75 :: u 76 :: u 77 :: u 78 :: u 79 :: u 80 :: u 81 :: u 82 :: u 83 :: u 84 :: u 85 :: u 86 :: u 87 :: u 88 :: u 89 :: u 90 :: u 91 :: u 92 :: u 93 :: u 94 :: u 95 :: u 96 :: u 97 :: u 98 :: u 99 :: u 100 :: u 101 :: u 102 :: u 103 :: u 104 :: u 105 :: u 106 :: u 107 :: u 108 :: u 109 :: u 110 :: u 111 :: u 112 :: u 113 :: u 114 :: u 115 :: u 116 :: u 117 :: u 118 :: u 119 :: u 120 :: u 121 :: u 122 :: u 123 :: u 124 :: u 125 :: u 126 :: u 127 :: u 128 :: u 129 :: u 130 :: u 131 :: u 132 :: u 133 :: []).toArray, a.defers⟩ := by
                    rw [hu]; exact frame_eq hn
                  have e6 : u 6 = .bool true := (congrFun hu 6).trans h6
                  rw [e6, hd] at ha
                  clear hd hn h6 hu
                  subst ha
                  clear e6
                  go_wp2_with fail
                  go_ret
                  exact ⟨rfl, HW10.out.trans (hG.out.mono HW10.out.size)⟩
              · rw [hek, hev] at hnx hen
                have HE2 := hid he
                have HW2 : Hid (Below w.heap.size w w2) := hid (HWG.out.trans (hb2.mono (by have := HWG.out.size; have := HRR.out; omega)))
                have k0 := (hb2.cell (p := ⟨g, 0, none⟩) l1).trans k0
                have k1 := (hb2.cell (p := ⟨g, 1, none⟩) l1).trans k1
                have q0 := (hb2.cell (p := ⟨g + 1, 0, none⟩) l2).trans q0
                have q1 := (hb2.cell (p := ⟨g + 1, 1, none⟩) l2).trans q1
                have l1 := Nat.lt_of_lt_of_le l1 (Nat.le_trans (Nat.le_of_eq HRR.out.symm) hb2.size)
                have l2 := Nat.lt_of_lt_of_le l2 (Nat.le_trans (Nat.le_of_eq HRR.out.symm) hb2.size)
                have HIT2 := hid hit; have HMM := hid hM2; have HB2 := hid hb2
                have HIN := hid hin; have HSS := hid hS
                clear he hek hev hit hM2 hb2 hin hS
                obtain ⟨wa, wb⟩ := want
                have hb7 := (Below.refl w2.heap.size w2).alloc (Nat.le_refl _) (.cells #[.int .i64 wa, .int .i64 wb] 24)
                have HB7 := hid hb7
                have HW7 := hid (HW2.out.trans (hb7.mono HW2.out.size))
                have HX7 : Hid ((w2.alloc (.cells #[.int .i64 wa, .int .i64 wb] 24)).cell? ⟨w2.heap.size, 0, none⟩ = some (.int .i64 wa) ∧ (w2.alloc (.cells #[.int .i64 wa, .int .i64 wb] 24)).cell? ⟨w2.heap.size, 1, none⟩ = some (.int .i64 wb) ∧ w2.heap.size < (w2.alloc (.cells #[.int .i64 wa, .int .i64 wb] 24)).heap.size) := hid ⟨by simp [World.cell?_alloc_new], by simp [World.cell?_alloc_new], by simp⟩
                clear hb7
                go_wp2_with fail
                obtain ⟨W7, hW7⟩ : ∃ W7, w2.alloc (.cells #[.int .i64 wa, .int .i64 wb] 24) = W7 := ⟨_, rfl⟩
                rw [hW7] at HX7 HB7 HW7 ⊢
                clear hW7
                have k0 := (HB7.out.cell (p := ⟨g, 0, none⟩) l1).trans k0
                have k1 := (HB7.out.cell (p := ⟨g, 1, none⟩) l1).trans k1
                have q0 := (HB7.out.cell (p := ⟨g + 1, 0, none⟩) l2).trans q0
                have q1 := (HB7.out.cell (p := ⟨g + 1, 1, none⟩) l2).trans q1
                have l1 := Nat.lt_of_lt_of_le l1 HB7.out.size
                have l2 := Nat.lt_of_lt_of_le l2 HB7.out.size
                have ⟨v0, v1, l3⟩ := HX7.out
                refine (cparse_any S (by have := HSS.out; omega) W7 (HE.out.below HW7.out)).mono ?_
                rintro e w8 ⟨⟨v, l, rr, rfl, hp, hsl⟩, hb8⟩
                obtain ⟨p, f1, f2, f3, f4⟩ := known_run HR.out HR'.out HIN.out
                obtain ⟨rfl, rfl⟩ := hp.of_text f1 f2
                have HSL := hid hsl
                have HF := hid (And.intro f3 f4)
                have HFI := hid f1
                have k0 := (hb8.cell (p := ⟨g, 0, none⟩) l1).trans k0
                have k1 := (hb8.cell (p := ⟨g, 1, none⟩) l1).trans k1
                have q0 := (hb8.cell (p := ⟨g + 1, 0, none⟩) l2).trans q0
                have q1 := (hb8.cell (p := ⟨g + 1, 1, none⟩) l2).trans q1
                obtain ⟨gw, hgw⟩ : ∃ gw, w2.heap.size = gw := ⟨_, rfl⟩
                have HGW := hid hgw
                rw [hgw] at v0 v1 l3 ⊢
                clear hgw
                have v0 := (hb8.cell (p := ⟨gw, 0, none⟩) l3).trans v0
                have v1 := (hb8.cell (p := ⟨gw, 1, none⟩) l3).trans v1
                have l1 := Nat.lt_of_lt_of_le l1 hb8.size
                have l2 := Nat.lt_of_lt_of_le l2 hb8.size
                have l3 := Nat.lt_of_lt_of_le l3 hb8.size
                have HW8 := hid (HW7.out.trans (hb8.mono HW7.out.size))
                have HB8 := hid (HB7.out.trans (hb8.mono HB7.out.size))
                clear hb8 hp f1 f2 f3 f4 hsl HX7 HB7
                go_wp2_with fail
                refine (vrun_any _ l (by have := ((fitsL_iff l).1 HFI.out).1; omega) x y 0 0 x' y' HXY.out ⟨i64_0, i64_0⟩ HXY'.out _ HSL.out).mono ?_
                rintro e w9 ⟨⟨rv, rfl, hrv⟩, hb9⟩
                obtain ⟨b6, o6, c6, F, rfl, lb, z0, z1, hc1⟩ := kn_res (Pf := fun F => F.c1 = (x', y')) hrv HF.out.1 (by simp [rgtB_of HR.out, rgtB_of HR'.out, rgtB_00]) HF.out.2
                have k0 := (hb9.cell (p := ⟨g, 0, none⟩) l1).trans k0
                have k1 := (hb9.cell (p := ⟨g, 1, none⟩) l1).trans k1
                have q0 := (hb9.cell (p := ⟨g + 1, 0, none⟩) l2).trans q0
                have q1 := (hb9.cell (p := ⟨g + 1, 1, none⟩) l2).trans q1
                have v0 := (hb9.cell (p := ⟨gw, 0, none⟩) l3).trans v0
                have v1 := (hb9.cell (p := ⟨gw, 1, none⟩) l3).trans v1
                have l1 := Nat.lt_of_lt_of_le l1 hb9.size
                have l2 := Nat.lt_of_lt_of_le l2 hb9.size
                have l3 := Nat.lt_of_lt_of_le l3 hb9.size
                have HW9 := hid (HW8.out.trans (hb9.mono HW8.out.size))
                have HB9 := hid (HB8.out.trans (hb9.mono HB8.out.size))
                rw [hc1]
                clear hb9 hrv hc1 HF HFI HSL
                simp only at z0 z1
                have hb10 := (Below.refl w9.heap.size w9).alloc (Nat.le_refl _) (.cells #[.slice (some ⟨b6, o6, none⟩) 1 c6, .int .i64 F.c0.1, .int .i64 F.c0.2, .int .i64 x', .int .i64 y', .int .i64 F.n] 29)
                have HR6 := hid (Res6.new w9 (.slice (some ⟨b6, o6, none⟩) 1 c6) F.c0.1 F.c0.2 x' y' F.n 29)
                have HB6 := hid hb10
                clear hb10
                go_wp2_with fail
                obtain ⟨W10, hW⟩ : ∃ W10, w9.alloc (.cells #[.slice (some ⟨b6, o6, none⟩) 1 c6, .int .i64 F.c0.1, .int .i64 F.c0.2, .int .i64 x', .int .i64 y', .int .i64 F.n] 29) = W10 := ⟨_, rfl⟩
                rw [hW] at HR6 HB6 ⊢
                clear hW
                obtain ⟨gr, hgr⟩ : ∃ gr, w9.heap.size = gr := ⟨_, rfl⟩
                have q0 := (HB6.out.cell (p := ⟨g + 1, 0, none⟩) l2).trans q0
                have q1 := (HB6.out.cell (p := ⟨g + 1, 1, none⟩) l2).trans q1
                have v0 := (HB6.out.cell (p := ⟨gw, 0, none⟩) l3).trans v0
                have v1 := (HB6.out.cell (p := ⟨gw, 1, none⟩) l3).trans v1
                have z0 := (HB6.out.cell (p := ⟨b6, o6, none⟩) lb).trans z0
                have z1 := (HB6.out.cell (p := ⟨b6, o6 + 1, none⟩) lb).trans z1
                have HB10 := hid (HB9.out.trans (HB6.out.mono HB9.out.size))
                rw [hgr] at HR6 ⊢
                have r0 := HR6.out.r0
                have r3 := HR6.out.r3
                have r4 := HR6.out.r4
                clear hgr HB6 HR6 k0 k1 l1 l2 l3 lb HB9 HW9
                have hq : ∀ w : World, (binOp .neq 24 (val wa wb) (val wa wb)).run Tryd.prog w = .ok (.bool false) w := fun w => (neq_val wa wb wa wb w).trans (by simp)
                have hq2 : ∀ w : World, (binOp .neq 24 (val x' y') (val x' y')).run Tryd.prog w = .ok (.bool false) w := fun w => (neq_val x' y' x' y' w).trans (by simp)
                go_quiet (fail)
                have HBQ := hid (below_drewN' HB10.out nq)
                clear HB10
                go_wp2_with fail
                go_roundw
                case rel =>
                  have hlt : r < w2.heap.size := (Array.getElem?_eq_some_iff.1 HIT2.out).1
                  exact ⟨seen.push e.born, hid ⟨(HBQ.out.block r hlt).trans HIT2.out, ⟨(HBQ.out.block bm (Nat.lt_trans HNE.out hlt)).trans HMM.out.blk, HMM.out.born, HMM.out.once, HMM.out.rt⟩, HB2.out.trans (HBQ.out.mono (by omega))⟩⟩
                case measure =>
                  have hlt : r < w2.heap.size := (Array.getElem?_eq_some_iff.1 HIT2.out).1
                  rw [iterSeen_at ((HBQ.out.block r hlt).trans HIT2.out), HIT.out]
                  exact left_shrinks es seen e HE2.out

end Go.Proofs.YtfohdoahddommaaDoor
