/- Layer 3, gauss: the walk of GaussIs. -/
import Derived.Test.YtgkhmhbmdmjacaaGauV
import Derived.Test.YtgkhmhbmdmjacaaReg
namespace Go.Proofs.Ytgkhmhbmdmjacaa
open Go.RowKit
set_option linter.unusedVariables false

/-- What a slot holds: this value; a slice of these values; anything. -/
inductive Kd
  | is (v : Value)
  | sl (l : List (Int × Int))
  | any
def Kd.ok (k : Kd) (u : Value) (w : World) : Prop :=
  match k with
  | .is v => u = v
  | .sl l => SlV w w.heap.size u l
  | .any => True
theorem Kd.stable (k : Kd) (u : Value) (w w' : World) (h : k.ok u w) (hb : Below w.heap.size w w') : k.ok u w' := by
  cases k with
  | is v => exact h
  | sl l => exact (SlV.below h hb).mono hb.size
  | any => trivial

theorem mul_pq (v : Value) (l : List (Int × Int)) (p q : Int) (h : Hid (prodV l = (p, q))) (hi : Hid (∀ j, j < l.length → I64 (l.getD j (0, 0)).1 ∧ I64 (l.getD j (0, 0)).2)) (hl : l.length ≤ 1000000000000) (w : World) (hv : SlV w w.heap.size v l) :
    Calls Try.prog 12 #[v] w fun e w' => e = .returned (val p q) ∧ Below w.heap.size w w' :=
  (mul_any v l w hv hl hi.out).mono fun e w' ⟨he, hb⟩ => ⟨by rw [he, h.out], hb⟩
theorem add_pq (v : Value) (l : List (Int × Int)) (p q : Int) (h : Hid (sumV l = (p, q))) (hi : Hid (∀ j, j < l.length → I64 (l.getD j (0, 0)).1 ∧ I64 (l.getD j (0, 0)).2)) (hl : l.length ≤ 1000000000000) (w : World) (hv : SlV w w.heap.size v l) :
    Calls Try.prog 11 #[v] w fun e w' => e = .returned (val p q) ∧ Below w.heap.size w w' :=
  (add_any v l w hv hl hi.out).mono fun e w' ⟨he, hb⟩ => ⟨by rw [he, h.out], hb⟩

theorem sub_pq (a b c d p q : Int) (h1 : Hid (I64 a ∧ I64 b)) (h2 : Hid (I64 c ∧ I64 d)) (hp : Hid (into (into a - into c) = p)) (hq : Hid (into (into b - into d) = q)) (w : World) :
    Calls Try.prog 13 #[val a b, val c d] w fun e w' => e = .returned (val p q) ∧ Below w.heap.size w w' :=
  (sub_any a b c d h1.out.1 h1.out.2 h2.out.1 h2.out.2 w).mono fun e w' ⟨he, hb⟩ => ⟨by rw [he, hp.out, hq.out], hb⟩
theorem conj_pq (a b p q : Int) (h1 : Hid (I64 a ∧ I64 b)) (hp : Hid (into a = p)) (hq : Hid (into (-into b) = q)) (w : World) :
    Calls Try.prog 15 #[val a b] w fun e w' => e = .returned (val p q) ∧ Below w.heap.size w w' :=
  (conj_any a b h1.out.1 h1.out.2 w).mono fun e w' ⟨he, hb⟩ => ⟨by rw [he, hp.out, hq.out], hb⟩
theorem right_pq (a b : Int) (p : Bool) (h1 : Hid (I64 a ∧ I64 b)) (hp : Hid ((decide (a = into a) && decide (b = into b)) = p)) (w : World) :
    Calls Try.prog 10 #[val a b] w fun e w' => e = .returned (.bool p) ∧ Below w.heap.size w w' :=
  (right_any a b h1.out.1 h1.out.2 w).mono fun e w' ⟨he, hb⟩ => ⟨by rw [he, hp.out], hb⟩

/-- The slots of GaussIs's last region. -/
def slotsI (n0 g7 g8 : Nat) (a1 a2 b1 b2 c1 c2 x y r1 r2 p1 p2 m1 m2 n1 n2 q1 q2 s1 s2 g z1 : Int) : List Kd :=
  [.any, .any, .any, .is (.pointer (some ⟨n0, 0, none⟩)), .is (.pointer (some ⟨n0 + 1, 0, none⟩)), .is (.pointer (some ⟨n0 + 1 + 1, 0, none⟩)), .is (.bool true), .is (.pointer (some ⟨g7, 0, none⟩)), .is (.pointer (some ⟨g8, 0, none⟩)), .any, .any, .any, .any, .any, .any, .any, .any, .any, .any, .any, .any, .is (val a1 a2), .is (val b1 b2), .is (val c1 c2), .sl [(b1, b2), (c1, c2)], .is (val r1 r2), .sl [(a1, a2), (r1, r2)], .is (val p1 p2), .is (val a1 a2), .is (val b1 b2), .sl [(a1, a2), (b1, b2)], .is (val m1 m2), .is (val a1 a2), .is (val c1 c2), .sl [(a1, a2), (c1, c2)], .is (val n1 n2), .sl [(m1, m2), (n1, n2)], .is (val p1 p2), .is (.bool true), .is (.bool true), .is (val a1 a2), .is (val b1 b2), .is (val c1 c2), .sl [(a1, a2), (b1, b2), (c1, c2)], .is (val q1 q2), .is (val c1 c2), .is (val b1 b2), .is (val a1 a2), .sl [(c1, c2), (b1, b2), (a1, a2)], .is (val q1 q2), .is (.bool true), .is (.bool true), .is (.bool true), .is (val a1 a2), .is (val b1 b2), .sl [(a1, a2), (b1, b2)], .is (val m1 m2), .is (val b1 b2), .is (val a1 a2), .sl [(b1, b2), (a1, a2)], .is (val m1 m2), .is (.bool true), .is (.bool true), .is (.bool true), .is (val a1 a2), .is (val b1 b2), .is (val s1 s2), .is (val b1 b2), .sl [(s1, s2), (b1, b2)], .is (val x y), .is (val x y), .is (.bool true), .is (.bool true), .is (.bool true), .is (val x y), .is (val x y), .is (.bool true), .is (.bool true), .is (.bool true), .is (val a1 a2), .is (val a1 a2), .is (val x g), .sl [(a1, a2), (x, g)], .is (val z1 0), .is (.int .i64 0), .is (.bool true), .is (.bool true), .is (.bool true), .is (val a1 a2), .is (val b1 b2), .sl [(a1, a2), (b1, b2)], .is (val m1 m2), .is (.bool true), .is (.bool true)]

theorem pair_of {p : Int × Int} : ∃ x y, p = (x, y) := ⟨p.1, p.2, rfl⟩

/-- A box laid behind what was there: the new base. -/
theorem rebase {W w' : World} (hb : Hid (Below W.heap.size W w')) (x y : Value) (t : TypeId) : ∃ V : World, w'.alloc (.cells #[x, y] t) = V ∧
    (V.cell? ⟨w'.heap.size, 0, none⟩ = some x ∧ V.cell? ⟨w'.heap.size, 1, none⟩ = some y) ∧ Hid (∀ b o, b < W.heap.size → V.cell? ⟨b, o, none⟩ = W.cell? ⟨b, o, none⟩) ∧
    w'.heap.size < V.heap.size ∧ W.heap.size ≤ V.heap.size ∧ Hid (Below W.heap.size W V) ∧ Hid (Below V.heap.size V V) := by
  have h1 := hb.out.alloc hb.out.size (.cells #[x, y] t)
  refine ⟨_, rfl, ⟨?_, ?_⟩, hid (bcell h1).1, by simp, h1.size, hid h1, hid (Below.refl _ _)⟩
  · simp
  · simp

theorem boxes3 (w : World) (a b c d e f : Value) (t : TypeId) : ∃ W : World, ((w.alloc (.cells #[a, b] t)).alloc (.cells #[c, d] t)).alloc (.cells #[e, f] t) = W ∧
    (W.cell? ⟨w.heap.size, 0, none⟩ = some a ∧ W.cell? ⟨w.heap.size, 1, none⟩ = some b ∧ W.cell? ⟨w.heap.size + 1, 0, none⟩ = some c ∧ W.cell? ⟨w.heap.size + 1, 1, none⟩ = some d ∧ W.cell? ⟨w.heap.size + 1 + 1, 0, none⟩ = some e ∧ W.cell? ⟨w.heap.size + 1 + 1, 1, none⟩ = some f) ∧
    (w.heap.size < W.heap.size ∧ w.heap.size + 1 < W.heap.size ∧ w.heap.size + 1 + 1 < W.heap.size) ∧ Hid (Below w.heap.size w W) := by
  obtain ⟨W, h1, h2, _, h3, _, h4⟩ := cells3 w a b c d e f t
  exact ⟨W, h1, h2, h3, h4⟩

set_option maxRecDepth 100000 in
set_option maxHeartbeats 4000000 in
theorem law_is (a1 a2 b1 b2 c1 c2 : Int) (w : World) (ha1 : (Lit.int .i64 a1).wf = true) (ha2 : (Lit.int .i64 a2).wf = true) (hb1 : (Lit.int .i64 b1).wf = true) (hb2 : (Lit.int .i64 b2).wf = true) (hc1 : (Lit.int .i64 c1).wf = true) (hc2 : (Lit.int .i64 c2).wf = true) :
    Calls Try.prog 4 #[val a1 a2, val b1 b2, val c1 c2] w fun e w' => e = .returned (.bool true) ∧ Below w.heap.size w w' := by
  have IA : Hid (I64 a1 ∧ I64 a2) := hid ⟨i64_of ha1, i64_of ha2⟩
  have IB : Hid (I64 b1 ∧ I64 b2) := hid ⟨i64_of hb1, i64_of hb2⟩
  have IC : Hid (I64 c1 ∧ I64 c2) := hid ⟨i64_of hc1, i64_of hc2⟩
  clear ha1 ha2 hb1 hb2 hc1 hc2
  obtain ⟨x, hx⟩ : ∃ x, into a1 = x := ⟨_, rfl⟩
  obtain ⟨y, hy⟩ : ∃ y, into a2 = y := ⟨_, rfl⟩
  obtain ⟨r1, r2, hR⟩ := pair_of (p := sumV [(b1, b2), (c1, c2)])
  obtain ⟨p1, p2, hP⟩ := pair_of (p := prodV [(a1, a2), (r1, r2)])
  obtain ⟨m1, m2, hM⟩ := pair_of (p := prodV [(a1, a2), (b1, b2)])
  obtain ⟨n1, n2, hN⟩ := pair_of (p := prodV [(a1, a2), (c1, c2)])
  obtain ⟨q1, q2, hQ⟩ := pair_of (p := prodV [(a1, a2), (b1, b2), (c1, c2)])
  obtain ⟨s1, hs1⟩ : ∃ x, into (into a1 - into b1) = x := ⟨_, rfl⟩
  obtain ⟨s2, hs2⟩ : ∃ x, into (into a2 - into b2) = x := ⟨_, rfl⟩
  obtain ⟨g, hg⟩ : ∃ x, into (-into a2) = x := ⟨_, rfl⟩
  obtain ⟨k, hk⟩ : ∃ k, into (-x) = k := ⟨_, rfl⟩
  obtain ⟨z1, z2, hZ⟩ := pair_of (p := prodV [(a1, a2), (x, g)])
  have hx' : into x = x := by rw [← hx, into_into]
  have hy' : into y = y := by rw [← hy, into_into]
  have hg' : into g = g := by rw [← hg, into_into]
  have hk' : into k = k := by rw [← hk, into_into]
  have HR := hid hR
  have HP := hid hP
  have HM := hid hM
  have HN := hid hN
  have HQ := hid hQ
  have HS : Hid (sumV [(m1, m2), (n1, n2)] = (p1, p2)) := hid (by rw [← hM, ← hN, ← hP, ← hR, dist2])
  have HQ' : Hid (prodV [(c1, c2), (b1, b2), (a1, a2)] = (q1, q2)) := hid (by rw [← hQ, turn3])
  have HM' : Hid (prodV [(b1, b2), (a1, a2)] = (m1, m2)) := hid (by rw [← hM, turn2])
  have HX : Hid (sumV [(s1, s2), (b1, b2)] = (x, y)) := hid (by
    have := back2 (a1, a2) (b1, b2)
    rw [← hs1, ← hs2]
    exact this.trans (by show (into a1, into a2) = _; rw [hx, hy]))
  have HZ0 : z2 = 0 := by
    have := conj_real (a1, a2)
    have e : prodV [((a1, a2) : Int × Int), (into a1, into (-into a2))] = (z1, z2) := by rw [hx, hg, hZ]
    have e2 := congrArg Prod.snd e
    exact e2.symm.trans this
  subst HZ0
  have HZ := hid hZ
  have HRT : Hid ((decide (m1 = into m1) && decide (m2 = into m2)) = true) := hid (by
    have := prod_right (a1, a2) (b1, b2)
    rw [hM] at this
    have h1 : into m1 = m1 := this.1
    have h2 : into m2 = m2 := this.2
    rw [h1, h2]; simp)
  have HX1 := hid hx
  have HY1 := hid hy
  have HG1 := hid hg
  have HS1 := hid hs1; have HS2 := hid hs2
  have IR : Hid (I64 r1 ∧ I64 r2) := hid (by have := sum2_i64 (b1, b2) (c1, c2); rw [hR] at this; exact this)
  have IM : Hid (I64 m1 ∧ I64 m2) := hid (by have := prod2_i64 (a1, a2) (b1, b2); rw [hM] at this; exact this)
  have IN : Hid (I64 n1 ∧ I64 n2) := hid (by have := prod2_i64 (a1, a2) (c1, c2); rw [hN] at this; exact this)
  have IS : Hid (I64 s1 ∧ I64 s2) := hid ⟨by rw [← hs1]; exact into_i64 _, by rw [← hs2]; exact into_i64 _⟩
  have IX : Hid (I64 x ∧ I64 g) := hid ⟨by rw [← hx]; exact into_i64 _, by rw [← hg]; exact into_i64 _⟩
  -- the turns: (a1, a2), (g, x), (k, g), (y, k), (x, y)
  have IT1 : Hid (I64 g ∧ I64 x) := hid ⟨IX.out.2, IX.out.1⟩
  have IT2 : Hid (I64 k ∧ I64 g) := hid ⟨by rw [← hk]; exact into_i64 _, IX.out.2⟩
  have IT3 : Hid (I64 y ∧ I64 k) := hid ⟨by rw [← hy]; exact into_i64 _, IT2.out.1⟩
  have T2 : Hid (into (-into x) = k) := hid (by rw [hx', hk])
  have T2' : Hid (into g = g) := hid hg'
  have T3 : Hid (into (-into g) = y) := hid (by rw [hg', ← hg, neg_neg_into, hy]; done)
  have T3' : Hid (into k = k) := hid hk'
  have T4 : Hid (into (-into k) = x) := hid (by rw [hk', ← hk, ← hx', neg_neg_into])
  have T4' : Hid (into y = y) := hid hy'
  clear hx hy hR hP hM hN hQ hs1 hs2 hg hk hZ hx' hy' hg' hk'
  have JBC := hid (i64_two IB.out IC.out)
  have JAR := hid (i64_two IA.out IR.out)
  have JAB := hid (i64_two IA.out IB.out)
  have JAC := hid (i64_two IA.out IC.out)
  have JMN := hid (i64_two IM.out IN.out)
  have JABC := hid (i64_three IA.out IB.out IC.out)
  have JCBA := hid (i64_three IC.out IB.out IA.out)
  have JBA := hid (i64_two IB.out IA.out)
  have JSB := hid (i64_two IS.out IB.out)
  have JAX := hid (i64_two IA.out IX.out)
  have heq := eql_same
  go_enter Try.func4, Try.ntmps4
  go_wp2_with fail
  obtain ⟨W, hW, ⟨k1, k2, k3, k4, k5, k6⟩, ⟨l1, l2, l3⟩, HW⟩ := boxes3 w (.int .i64 a1) (.int .i64 a2) (.int .i64 b1) (.int .i64 b2) (.int .i64 c1) (.int .i64 c2) 23
  rw [hW]; clear hW
  refine (awake3 W).mono ?_
  rintro e w1 ⟨rfl, hb⟩
  obtain ⟨hc, hf⟩ := bcell hb
  have HB := hid hb; clear hb
  go_wp2_with fail
  refine (of_from (W := W) a1 a2 x y IA HX1 HY1 _ HB).mono ?_
  rintro e w2 ⟨rfl, hb⟩
  clear hc hf HB
  obtain ⟨hc, hf⟩ := bcell hb.out
  have j1 := Nat.lt_of_lt_of_le l1 hb.out.size
  have j2 := Nat.lt_of_lt_of_le l2 hb.out.size
  have j3 := Nat.lt_of_lt_of_le l3 hb.out.size
  go_wp2_with fail
  obtain ⟨V, hV, ⟨k7, k8⟩, hv, l4, hWV, HWV, HVV⟩ := rebase hb (.int .i64 x) (.int .i64 y) 23
  rw [hV]; clear hV hc hf j1 j2 j3 hb
  generalize w2.heap.size = g7 at k7 k8 l4 ⊢
  have k1 := (hv.out _ _ l1).trans k1
  have k2 := (hv.out _ _ l1).trans k2
  have k3 := (hv.out _ _ l2).trans k3
  have k4 := (hv.out _ _ l2).trans k4
  have k5 := (hv.out _ _ l3).trans k5
  have k6 := (hv.out _ _ l3).trans k6
  have l1 := Nat.lt_of_lt_of_le l1 hWV
  have l2 := Nat.lt_of_lt_of_le l2 hWV
  have l3 := Nat.lt_of_lt_of_le l3 hWV
  have HW := hid (HW.out.trans (HWV.out.mono HW.out.size))
  clear hv hWV HWV
  refine (turn_from (W := V) a1 a2 g x IA HG1 HX1 _ HVV).mono ?_
  rintro e w' ⟨rfl, hb⟩
  obtain ⟨hc, hf⟩ := bcell hb.out
  go_wp2_with fail
  refine (turn_from (W := V) g x k g IT1 T2 T2' _ hb).mono ?_
  rintro e w' ⟨rfl, hb⟩
  clear hc hf
  obtain ⟨hc, hf⟩ := bcell hb.out
  go_wp2_with fail
  refine (turn_from (W := V) k g y k IT2 T3 T3' _ hb).mono ?_
  rintro e w' ⟨rfl, hb⟩
  clear hc hf
  obtain ⟨hc, hf⟩ := bcell hb.out
  go_wp2_with fail
  refine (turn_from (W := V) y k x y IT3 T4 T4' _ hb).mono ?_
  rintro e w' ⟨rfl, hb⟩
  clear hc hf
  obtain ⟨hc, hf⟩ := bcell hb.out
  have j1 := Nat.lt_of_lt_of_le l1 hb.out.size
  have j2 := Nat.lt_of_lt_of_le l2 hb.out.size
  have j3 := Nat.lt_of_lt_of_le l3 hb.out.size
  have j4 := Nat.lt_of_lt_of_le l4 hb.out.size
  go_wp2_with fail
  obtain ⟨X, hX, ⟨k9, k10⟩, hv, l5, hWV, HWV, HVV2⟩ := rebase hb (.int .i64 x) (.int .i64 y) 23
  rw [hX]; clear hX hc hf j1 j2 j3 j4 hb
  generalize w'.heap.size = g8 at k9 k10 l5 ⊢
  have k1 := (hv.out _ _ l1).trans k1
  have k2 := (hv.out _ _ l1).trans k2
  have k3 := (hv.out _ _ l2).trans k3
  have k4 := (hv.out _ _ l2).trans k4
  have k5 := (hv.out _ _ l3).trans k5
  have k6 := (hv.out _ _ l3).trans k6
  have k7 := (hv.out _ _ l4).trans k7
  have k8 := (hv.out _ _ l4).trans k8
  have l1 := Nat.lt_of_lt_of_le l1 hWV
  have l2 := Nat.lt_of_lt_of_le l2 hWV
  have l3 := Nat.lt_of_lt_of_le l3 hWV
  have l4 := Nat.lt_of_lt_of_le l4 hWV
  have HW := hid (HW.out.trans (HWV.out.mono HW.out.size))
  clear hv hWV HWV HVV
  generalize w.heap.size = n0 at k1 k2 k3 k4 k5 k6 l1 l2 l3 ⊢
  refine region_all (T := fun k => ((slotsI n0 g7 g8 a1 a2 b1 b2 c1 c2 x y r1 r2 p1 p2 m1 m2 n1 n2 q1 q2 s1 s2 g z1).getD k .any).ok) (G := fun w' => Hid (Below X.heap.size X w')) (bs := [3, 4, 5, 7, 8]) 94 (by kernel_rfl) rfl (by kernel_rfl) (fun k u w w' => Kd.stable _ u w w') (hid (Below.refl _ _).drew) ?_ ?_ ?_
  · refine List.forall_mem_cons.2 ⟨rfl, List.forall_mem_cons.2 ⟨rfl, List.forall_mem_cons.2 ⟨rfl, List.forall_mem_cons.2 ⟨rfl, List.forall_mem_cons.2 ⟨rfl, ?_⟩⟩⟩⟩⟩
    intro k hk; cases hk
  · repeat' (first | exact StepAll.nil | refine StepAll.append ?_ ?_ | refine StepAll.cons ?_ ?_)
    all_goals refine .inl ⟨?_, ?_⟩
    all_goals first
      | exact guard_none rfl
      | exact guard_some rfl rfl (fun u w h => h)
      | skip
    all_goals intro K a w' hK hG H
    all_goals obtain ⟨hc, hf⟩ := bcell hG.out
    all_goals first
      | (obtain ⟨h1, h2, h3, -⟩ := H; change a.tmps.getD _ undef = _ at h1; have g1 := h1; rw [Array.getD_eq_getD_getElem?] at g1; change a.tmps.getD _ undef = _ at h2; have g2 := h2; rw [Array.getD_eq_getD_getElem?] at g2; change a.tmps.getD _ undef = _ at h3; have g3 := h3; rw [Array.getD_eq_getD_getElem?] at g3)
      | (obtain ⟨h1, h2, -⟩ := H; change a.tmps.getD _ undef = _ at h1; have g1 := h1; rw [Array.getD_eq_getD_getElem?] at g1; change a.tmps.getD _ undef = _ at h2; have g2 := h2; rw [Array.getD_eq_getD_getElem?] at g2)
      | (obtain ⟨h1, -⟩ := H; change a.tmps.getD _ undef = _ at h1; have g1 := h1; rw [Array.getD_eq_getD_getElem?] at g1)
      | (obtain ⟨h1, -⟩ := H; change SlV _ _ _ _ at h1; rw [Array.getD_eq_getD_getElem?] at h1)
      | skip
    all_goals go_simp
    all_goals first
      | (go_at_call 12; refine (mul_pq _ _ ?_ ?_ ?_ ?_ ?_ _ h1).mono ?_; rotate_left 2; assumption; assumption; simp; (rintro e w'' ⟨rfl, hb⟩; exact hK _ _ (fun d hd => by cases hd; exact rfl) (hid (hG.out.trans (hb.mono hG.out.size))) hb))
      | (go_at_call 11; refine (add_pq _ _ ?_ ?_ ?_ ?_ ?_ _ h1).mono ?_; rotate_left 2; assumption; assumption; simp; (rintro e w'' ⟨rfl, hb⟩; exact hK _ _ (fun d hd => by cases hd; exact rfl) (hid (hG.out.trans (hb.mono hG.out.size))) hb))
      | (go_at_call 13; refine (sub_pq _ _ _ _ s1 s2 IA IB HS1 HS2 _).mono ?_; (rintro e w'' ⟨rfl, hb⟩; exact hK _ _ (fun d hd => by cases hd; exact rfl) (hid (hG.out.trans (hb.mono hG.out.size))) hb))
      | (go_at_call 15; refine (conj_pq _ _ x g IA HX1 HG1 _).mono ?_; (rintro e w'' ⟨rfl, hb⟩; exact hK _ _ (fun d hd => by cases hd; exact rfl) (hid (hG.out.trans (hb.mono hG.out.size))) hb))
      | (go_at_call 10; refine (right_pq _ _ true IM HRT _).mono ?_; (rintro e w'' ⟨rfl, hb⟩; exact hK _ _ (fun d hd => by cases hd; exact rfl) (hid (hG.out.trans (hb.mono hG.out.size))) hb))
      | exact hK _ _ (fun d hd => by cases hd; exact rfl) hG (Below.refl _ _)
      | exact hK _ _ (fun d hd => by cases hd; exact SlV.two _ _ _ _ _ _) (hid (hG.out.alloc hG.out.size _)) ((Below.refl _ _).alloc (Nat.le_refl _) _)
      | exact hK _ _ (fun d hd => by cases hd; exact SlV.three _ _ _ _ _ _ _ _) (hid (hG.out.alloc hG.out.size _)) ((Below.refl _ _).alloc (Nat.le_refl _) _)
      | skip
  · intro a w' hd _ hG _ hval
    have h6 : a.tmps.getD 6 undef = .bool true := hval 6 (by kernel_rfl)
    clear hval
    rw [Array.getD_eq_getD_getElem?] at h6
    go_wp2
    exact bodyPost_ret (v := .bool true) (by simp [results, Try.results4, go_sem, h6]) hd ⟨rfl, HW.out.trans (hG.out.mono HW.out.size)⟩

end Go.Proofs.Ytgkhmhbmdmjacaa
