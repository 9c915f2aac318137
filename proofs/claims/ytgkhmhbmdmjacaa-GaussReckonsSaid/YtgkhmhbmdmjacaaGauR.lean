/- Layer 3, gauss: the walk of GaussReckons. -/
import Derived.Test.YtgkhmhbmdmjacaaGauI
import Derived.Test.YtgkhmhbmdmjacaaGauRef
namespace Go.Proofs.Ytgkhmhbmdmjacaa
open Go.RowKit
set_option linter.unusedVariables false

/-- The slots of GaussReckons's last region. -/
def slotsR (v : Value) (n0 g7 g : Nat) (a1 a2 b1 b2 x y xb s1 s2 p1 p2 d1 d2 c : Int) (rt z lt : Bool) : List Kd :=
  [.any, .any, .is v, .is (.pointer (some ⟨n0, 0, none⟩)), .is (.pointer (some ⟨n0 + 1, 0, none⟩)), .any, .is (.bool true), .is (.pointer (some ⟨g7, 0, none⟩)), .is (.pointer (some ⟨g7 + 1, 0, none⟩)), .any, .any, .is (.pointer (some ⟨g, 0, none⟩)), .any, .any, .any, .any, .any, .any, .any, .any, .any, .any, .any, .any, .any, .any, .any, .any, .any, .any, .any, .any, .any, .any, .any, .any, .any, .is (.pointer (some ⟨n0, 0, none⟩)), .is (.int .i64 a1), .is (.pointer (some ⟨n0, 1, none⟩)), .is (.int .i64 a2), .is (val x y), .is (val x y), .is (.bool true), .is (.bool true), .is (val a1 a2), .is (.bool rt), .is (val x y), .is (val a1 a2), .is (.bool rt), .is (.bool true), .is (.bool true), .is (.bool true), .is v, .is (val s1 s2), .is (val s1 s2), .is (.bool true), .is (.bool true), .is (.bool true), .is v, .is (val p1 p2), .is (val p1 p2), .is (.bool true), .is (.bool true), .is (.bool true), .is (val a1 a2), .is (val b1 b2), .is (val d1 d2), .is (val a1 a2), .is (val b1 b2), .is (val d1 d2), .is (.bool true), .is (.bool true), .is (.bool true), .is (val a1 a2), .is (val x c), .is (.pointer (some ⟨g, 0, none⟩)), .is (.int .i64 x), .is (.pointer (some ⟨g, 1, none⟩)), .is (.int .i64 y), .is (.int .i64 (-y)), .is (val x c), .is (.bool true), .is (.bool true), .is (.bool true), .is (val a1 a2), .is (val c x), .is (.pointer (some ⟨g, 1, none⟩)), .is (.int .i64 y), .is (.int .i64 (-y)), .is (.pointer (some ⟨g, 0, none⟩)), .is (.int .i64 x), .is (val c x), .is (.bool true), .is (.bool true), .is (.bool true), .is (val a1 a2), .is (.bool z), .is (val x y), .is (val 0 0), .is (.bool z), .is (.bool true), .is (.bool true), .is (.bool true), .is (val a1 a2), .is (val b1 b2), .is (.bool lt), .is (.pointer (some ⟨g, 0, none⟩)), .is (.int .i64 x), .is (.pointer (some ⟨n0 + 1, 0, none⟩)), .is (.int .i64 b1), .is (.int .i64 xb), .is (.bool lt), .is (.bool true), .is (.bool true)]

/-- The world of the loop: the two boxes of what was reckoned so far, behind a base W. -/
structure TwoSt (W : World) (g : Nat) (s1 s2 p1 p2 : Int) (wr : World) : Prop where
  bel : Below W.heap.size W wr
  gt : W.heap.size ≤ g
  sz : g + 1 < wr.heap.size
  c0 : wr.cell? ⟨g, 0, none⟩ = some (.int .i64 s1)
  c1 : wr.cell? ⟨g, 1, none⟩ = some (.int .i64 s2)
  c2 : wr.cell? ⟨g + 1, 0, none⟩ = some (.int .i64 p1)
  c3 : wr.cell? ⟨g + 1, 1, none⟩ = some (.int .i64 p2)
  f0 : wr.frozen? ⟨g, 0, none⟩ = false
  f1 : wr.frozen? ⟨g, 1, none⟩ = false
  f2 : wr.frozen? ⟨g + 1, 0, none⟩ = false
  f3 : wr.frozen? ⟨g + 1, 1, none⟩ = false

theorem TwoSt.new (W : World) (s1 s2 p1 p2 : Int) (t : TypeId) : TwoSt W W.heap.size s1 s2 p1 p2 ((W.alloc (.cells #[.int .i64 s1, .int .i64 s2] t)).alloc (.cells #[.int .i64 p1, .int .i64 p2] t)) := by
  constructor
  all_goals first | exact ((Below.refl _ _).alloc (Nat.le_refl _) _).alloc (by simp) _ | exact Nat.le_refl _ | (go_simp; done) | (simp; done) | (simp; omega)

theorem TwoSt.below {W V w' : World} {g : Nat} {s1 s2 p1 p2 : Int} (h : TwoSt W g s1 s2 p1 p2 V) (hb : Below V.heap.size V w') : TwoSt W g s1 s2 p1 p2 w' := by
  have hz := h.sz
  have hs := hb.size
  obtain ⟨hc, hf⟩ := bcell hb
  refine ⟨h.bel.trans (hb.mono h.bel.size), h.gt, by omega, ?_, ?_, ?_, ?_, ?_, ?_, ?_, ?_⟩
  · rw [hc _ _ (by omega)]; exact h.c0
  · rw [hc _ _ (by omega)]; exact h.c1
  · rw [hc _ _ (by omega)]; exact h.c2
  · rw [hc _ _ (by omega)]; exact h.c3
  · rw [hf _ _ (by omega)]; exact h.f0
  · rw [hf _ _ (by omega)]; exact h.f1
  · rw [hf _ _ (by omega)]; exact h.f2
  · rw [hf _ _ (by omega)]; exact h.f3

theorem TwoSt.put1 {W w' : World} {g : Nat} {s1 s2 p1 p2 : Int} (h : TwoSt W g s1 s2 p1 p2 w') (m n : Int) : TwoSt W g m n p1 p2 ((w'.setCell ⟨g, 0, none⟩ (.int .i64 m)).setCell ⟨g, 1, none⟩ (.int .i64 n)) := by
  obtain ⟨h0, hg, h1, h2, h3, h4, h5, h6, h7, h8, h9⟩ := h
  refine ⟨(h0.setCell (by simp only; omega) _).setCell (by simp only; omega) _, hg, by simpa using h1, ?_, ?_, ?_, ?_, ?_, ?_, ?_, ?_⟩
  all_goals (go_simp; done)
theorem TwoSt.put2 {W w' : World} {g : Nat} {s1 s2 p1 p2 : Int} (h : TwoSt W g s1 s2 p1 p2 w') (m n : Int) : TwoSt W g s1 s2 m n ((w'.setCell ⟨g + 1, 0, none⟩ (.int .i64 m)).setCell ⟨g + 1, 1, none⟩ (.int .i64 n)) := by
  obtain ⟨h0, hg, h1, h2, h3, h4, h5, h6, h7, h8, h9⟩ := h
  refine ⟨(h0.setCell (by simp only; omega) _).setCell (by simp only; omega) _, hg, by simpa using h1, ?_, ?_, ?_, ?_, ?_, ?_, ?_, ?_⟩
  all_goals (go_simp; done)

theorem of_pq (a b p q : Int) (h1 : Hid (I64 a ∧ I64 b)) (hp : Hid (into a = p)) (hq : Hid (into b = q)) (w : World) :
    Calls Try.prog 9 #[.int .i64 a, .int .i64 b] w fun e w' => e = .returned (val p q) ∧ Below w.heap.size w w' :=
  (of_any a b h1.out.1 h1.out.2 w).mono fun e w' ⟨he, hb⟩ => ⟨by rw [he, hp.out, hq.out], hb⟩
theorem refof_pq (a b p q : Int) (hp : Hid (into a = p)) (hq : Hid (into b = q)) (w : World) :
    Calls Try.prog 8 #[.int .i64 a, .int .i64 b] w fun e w' => e = .returned (val p q) ∧ Below w.heap.size w w' :=
  (refof_val a b w).mono fun e w' ⟨he, hb⟩ => ⟨by rw [he, hp.out, hq.out], hb⟩
theorem refsub_pq (a b c d p q : Int) (hp : Hid (into (into a - into c) = p)) (hq : Hid (into (into b - into d) = q)) (w : World) :
    Calls Try.prog 14 #[val a b, val c d] w fun e w' => e = .returned (val p q) ∧ Below w.heap.size w w' :=
  (refsub_any a b c d w).mono fun e w' ⟨he, hb⟩ => ⟨by rw [he, hp.out, hq.out], hb⟩
theorem refinto_pq (a p : Int) (hp : Hid (into a = p)) (w : World) :
    Calls Try.prog 19 #[.int .i64 a] w fun e w' => e = .returned (.int .i64 p) ∧ Below w.heap.size w w' :=
  (refinto_any a w).mono fun e w' ⟨he, hb⟩ => ⟨by rw [he, hp.out], by rw [← hb]; exact Below.refl _ _⟩
theorem turn_pq (a b p q : Int) (h1 : Hid (I64 a ∧ I64 b)) (hp : Hid (into (-into b) = p)) (hq : Hid (into a = q)) (w : World) :
    Calls Try.prog 16 #[val a b] w fun e w' => e = .returned (val p q) ∧ Below w.heap.size w w' :=
  (turn_any a b h1.out.1 h1.out.2 w).mono fun e w' ⟨he, hb⟩ => ⟨by rw [he, hp.out, hq.out], hb⟩
theorem zero_pq (a b : Int) (p : Bool) (h1 : Hid (I64 a ∧ I64 b)) (hp : Hid ((decide (into a = 0) && decide (into b = 0)) = p)) (w : World) :
    Calls Try.prog 17 #[val a b] w fun e w' => e = .returned (.bool p) ∧ Below w.heap.size w w' :=
  (zero_any a b h1.out.1 h1.out.2 w).mono fun e w' ⟨he, hb⟩ => ⟨by rw [he, hp.out], hb⟩
theorem less_pq (a b c d : Int) (p : Bool) (h1 : Hid (I64 a ∧ I64 b)) (h2 : Hid (I64 c ∧ I64 d)) (hp : Hid (decide (into a < into c) = p)) (w : World) :
    Calls Try.prog 18 #[val a b, val c d] w fun e w' => e = .returned (.bool p) ∧ Below w.heap.size w w' :=
  (less_any a b c d h1.out.1 h1.out.2 h2.out.1 h2.out.2 w).mono fun e w' ⟨he, hb⟩ => ⟨by rw [he, hp.out], hb⟩
theorem refadd_pq (x y : Int × Int) (a b c d p q : Int) (hx : Hid (x = (a, b))) (hy : Hid (y = (c, d))) (h : Hid (addV x y = (p, q))) (w : World) :
    Calls Try.prog 6 #[val a b, val c d] w fun e w' => e = .returned (val p q) ∧ Below w.heap.size w w' :=
  (refadd_any a b c d w).mono fun e w' ⟨he, hb⟩ => ⟨by
    have h1 := h.out; rw [hx.out, hy.out, addV] at h1
    rw [he]; injection h1 with h2 h3; rw [h2, h3], hb⟩
theorem refmul_pq (x y : Int × Int) (a b c d p q : Int) (hx : Hid (x = (a, b))) (hy : Hid (y = (c, d))) (h : Hid (mulV x y = (p, q))) (w : World) :
    Calls Try.prog 7 #[val a b, val c d] w fun e w' => e = .returned (val p q) ∧ Below w.heap.size w w' :=
  (refmul_any a b c d w).mono fun e w' ⟨he, hb⟩ => ⟨by
    have h1 := h.out; rw [hx.out, hy.out, mulV] at h1
    rw [he]; injection h1 with h2 h3; rw [h2, h3], hb⟩

/-- A slice of values that came in. -/
structure SvIn (w : World) (v : Value) (l : List (Int × Int)) : Prop where
  row : SlV w w.heap.size v l
  fits : ∀ j, j < l.length → I64 (l.getD j (0, 0)).1 ∧ I64 (l.getD j (0, 0)).2
  most : l.length ≤ maxLen

set_option maxRecDepth 100000 in
set_option maxHeartbeats 4000000 in
theorem law_reckons (a1 a2 b1 b2 : Int) (v : Value) (l : List (Int × Int)) (w : World) (ha1 : (Lit.int .i64 a1).wf = true) (ha2 : (Lit.int .i64 a2).wf = true) (hb1 : (Lit.int .i64 b1).wf = true) (hb2 : (Lit.int .i64 b2).wf = true) (hl : SvIn w v l) :
    Calls Try.prog 3 #[val a1 a2, val b1 b2, v] w fun e w' => e = .returned (.bool true) ∧ Below w.heap.size w w' := by
  have IA : Hid (I64 a1 ∧ I64 a2) := hid ⟨i64_of ha1, i64_of ha2⟩
  have IB : Hid (I64 b1 ∧ I64 b2) := hid ⟨i64_of hb1, i64_of hb2⟩
  clear ha1 ha2 hb1 hb2
  obtain ⟨hv, hi, hm⟩ := hl
  have HI := hid hi; clear hi
  unfold maxLen at hm
  have HV := hid hv
  obtain ⟨A, cp, rfl, hc, hA⟩ := hv
  have HA := hid hA; clear hA
  obtain ⟨x, hx⟩ : ∃ x, into a1 = x := ⟨_, rfl⟩
  obtain ⟨y, hy⟩ : ∃ y, into a2 = y := ⟨_, rfl⟩
  obtain ⟨xb, hxb⟩ : ∃ x, into b1 = x := ⟨_, rfl⟩
  obtain ⟨c, hcc⟩ : ∃ x, into (-into a2) = x := ⟨_, rfl⟩
  obtain ⟨d1, hd1⟩ : ∃ x, into (into a1 - into b1) = x := ⟨_, rfl⟩
  obtain ⟨d2, hd2⟩ : ∃ x, into (into a2 - into b2) = x := ⟨_, rfl⟩
  obtain ⟨rt, hrt⟩ : ∃ x, (decide (a1 = into a1) && decide (a2 = into a2)) = x := ⟨_, rfl⟩
  obtain ⟨z, hz⟩ : ∃ x, (decide (into a1 = 0) && decide (into a2 = 0)) = x := ⟨_, rfl⟩
  obtain ⟨lt, hlt⟩ : ∃ x, decide (into a1 < into b1) = x := ⟨_, rfl⟩
  have y0 : -524288 ≤ y := by rw [← hy]; exact into_ge _
  have y1 : y ≤ 524287 := by rw [← hy]; exact into_le _
  have HX := hid hx; have HY := hid hy; have HXB := hid hxb; have HC := hid hcc; have HD1 := hid hd1; have HD2 := hid hd2
  have HRT := hid hrt; have HZ := hid hz; have HLT := hid hlt
  have HXX : Hid (into x = x) := hid (by rw [← hx, into_into])
  have HCY : Hid (into (-y) = c) := hid (by rw [← hcc, hy])
  have he1 : ∀ w : World, (binOp .eql 23 (val x y) (val a1 a2)).run Try.prog w = .ok (.bool rt) w := fun w => by
    rw [eql_val, ← hrt, hx, hy, decide_eq_decide.2 (eq_comm (a := x) (b := a1)), decide_eq_decide.2 (eq_comm (a := y) (b := a2))]
  have he2 : ∀ w : World, (binOp .eql 23 (val x y) (val 0 0)).run Try.prog w = .ok (.bool z) w := fun w => by
    rw [eql_val, ← hz, hx, hy]
  have hlt' : decide (x < xb) = lt := by rw [← hlt, hx, hxb]
  have hwy : IntKind.i64.wrap (-y) = -y := by rw [IntKind.wrap_i64]; omega
  have heq := eql_same
  clear hx hy hxb hcc hd1 hd2 hrt hz hlt
  by_cases h60 : 60 < l.length
  · go_enter Try.func3, Try.ntmps3
    go_wp2_with fail
    refine (awake3 _).mono ?_
    rintro e w1 ⟨rfl, hb⟩
    have HB := hid hb; clear hb
    go_wp2
    go_ret
    exact ⟨rfl, (((Below.refl _ w).alloc (Nat.le_refl _) _).alloc (by simp) _).trans (HB.out.mono (by simp; omega))⟩
  have hd60 : decide ((60 : Int) < (l.length : Int)) = false := by simp; omega
  have h60' : l.length ≤ 60 := by omega
  clear h60 hm
  go_enter Try.func3, Try.ntmps3
  go_wp2_with fail
  obtain ⟨W0, hW, ⟨k1, k2, k3, k4⟩, ⟨l1, l2⟩, _, HW0⟩ := cells2 w (.int .i64 a1) (.int .i64 a2) (.int .i64 b1) (.int .i64 b2) 23
  rw [hW]; clear hW
  refine (awake3 W0).mono ?_
  rintro e W ⟨rfl, hb⟩
  obtain ⟨hc', hf'⟩ := bcell hb
  have k1 := (hc' _ _ l1).trans k1
  have k2 := (hc' _ _ l1).trans k2
  have k3 := (hc' _ _ l2).trans k3
  have k4 := (hc' _ _ l2).trans k4
  have l1 := Nat.lt_of_lt_of_le l1 hb.size
  have l2 := Nat.lt_of_lt_of_le l2 hb.size
  have HW := hid (HW0.out.trans (hb.mono HW0.out.size))
  have HVW := hid ((HV.out.below HW.out).mono HW.out.size)
  clear hc' hf' hb HW0
  generalize w.heap.size = n0 at k1 k2 k3 k4 l1 l2 ⊢
  go_wp2_with fail
  generalize hg : W.heap.size = g7
  go_loopw [21] (fun i wr => ∃ k : Nat, k ≤ l.length ∧ i = .int .i64 k ∧ TwoSt W g7 (sumV (l.take k)).1 (sumV (l.take k)).2 (prodV (l.take k)).1 (prodV (l.take k)).2 wr) (fun i _ => l.length - (intOf i).toNat)
  case atStart => exact ⟨0, Nat.zero_le _, rfl, by rw [← hg]; exact TwoSt.new W 0 0 1 0 _⟩
  case round =>
    have HGG := hid hg; clear hg
    obtain ⟨k, hk, rfl, hst⟩ := hrel
    obtain ⟨p, q, hpq⟩ := pair_of (p := sumV (l.take k))
    obtain ⟨r, s, hrs⟩ := pair_of (p := prodV (l.take k))
    rw [hpq, hrs] at hst
    have HPQ := hid hpq; have HRS := hid hrs; clear hpq hrs
    have HS := hid hst
    have ⟨_, lg, l3, s0, s1, s2, s3, f0, f1, f2, f3⟩ := hst
    clear hst
    by_cases hlt : k < l.length
    · obtain ⟨b, o, rfl, hbB, hcell⟩ := HA.out (by omega)
      obtain ⟨ca, cb⟩ := hcell k hlt
      have HN1 := hid (sumV_snoc l k hlt)
      have HN2 := hid (prodV_snoc l k hlt)
      obtain ⟨a, b', hab⟩ := pair_of (p := l.getD k (0, 0))
      rw [hab] at ca cb
      have HAB := hid hab; clear hab hcell
      obtain ⟨m, n, hmn⟩ := pair_of (p := addV (sumV (l.take k)) (l.getD k (0, 0)))
      obtain ⟨t, u, htu⟩ := pair_of (p := mulV (prodV (l.take k)) (l.getD k (0, 0)))
      have HMN := hid hmn; have HTU := hid htu; clear hmn htu
      have hbl := HW.out.trans (HS.out.bel.mono HW.out.size)
      have ca' := (hbl.cell (p := ⟨b, o + k * 2, none⟩) hbB).trans ca
      have cb' := (hbl.cell (p := ⟨b, o + k * 2 + 1, none⟩) hbB).trans cb
      clear ca cb hbl
      have l4 : g7 < wr.heap.size := by omega
      go_wp2_with fail
      have HA1 := hid ((Below.refl wr.heap.size wr).alloc (Nat.le_refl _) (.cells #[.int .i64 a, .int .i64 b'] 23))
      refine (refadd_pq _ _ p q a b' m n HPQ HAB HMN _).mono ?_
      rintro e w2 ⟨rfl, hb2⟩
      have HT2 : Hid (TwoSt W g7 p q r s w2) := hid ((HS.out.below HA1.out).below hb2)
      have ⟨_, _, m3, t0, t1, t2, t3, e0, e1, e2, e3⟩ := HT2.out
      have m4 : g7 < w2.heap.size := by omega
      have hcb := (bcell hb2).1
      have n5 : wr.heap.size < w2.heap.size := by have := hb2.size; simp at this; omega
      have v0 := hcb wr.heap.size 0 (by simp)
      have v1 := hcb wr.heap.size 1 (by simp)
      simp only [World.cell?_alloc_new] at v0 v1
      clear hcb hb2
      have n6 : g7 ≠ wr.heap.size := by omega
      have n7 : wr.heap.size ≠ g7 := by omega
      have n8 : g7 + 1 ≠ wr.heap.size := by omega
      have n9 : wr.heap.size ≠ g7 + 1 := by omega
      go_wp2_with fail
      refine (refmul_pq _ _ r s a b' t u HRS HAB HTU _).mono ?_
      rintro e w4 ⟨rfl, hb4⟩
      have HT4 : Hid (TwoSt W g7 m n r s w4) := hid ((HT2.out.put1 m n).below hb4)
      have ⟨_, _, z3, z0, z1, z2, z4, y4, y5, y6, y7⟩ := HT4.out
      clear hb4 v0 v1 t0 t1 t2 t3 e0 e1 e2 e3
      go_wp2
      go_roundw
      case rel =>
        refine ⟨k + 1, by omega, by go_num, ?_⟩
        rw [HN1.out, HN2.out, HMN.out, HTU.out]
        exact HT4.out.put2 t u
      case measure => simp [intOf]; omega
    · have HE : Hid (l.take k = l) := hid (List.take_of_length_le (by omega))
      have HS1 : Hid (sumV l = (p, q)) := hid (by rw [← HPQ.out, HE.out])
      have HP1 : Hid (prodV l = (r, s)) := hid (by rw [← HRS.out, HE.out])
      clear HPQ HRS
      have q1 := (HS.out.bel.cell (p := ⟨n0, 0, none⟩) l1).trans k1
      have q2 := (HS.out.bel.cell (p := ⟨n0, 1, none⟩) l1).trans k2
      have q3 := (HS.out.bel.cell (p := ⟨n0 + 1, 0, none⟩) l2).trans k3
      have q4 := (HS.out.bel.cell (p := ⟨n0 + 1, 1, none⟩) l2).trans k4
      have l1 := Nat.lt_of_lt_of_le l1 HS.out.bel.size
      have l2 := Nat.lt_of_lt_of_le l2 HS.out.bel.size
      have l4 : g7 < wr.heap.size := by omega
      have HW := hid (HW.out.trans (HS.out.bel.mono HW.out.size))
      have HVW := hid ((HV.out.below HW.out).mono HW.out.size)
      clear k1 k2 k3 k4 f0 f1 f2 f3 HS
      go_wp2_with fail
      refine (refof_pq a1 a2 x y HX HY _).mono ?_
      rintro e w2 ⟨rfl, hb⟩
      obtain ⟨hc, hf⟩ := bcell hb
      have j1 := Nat.lt_of_lt_of_le l1 hb.size
      have j2 := Nat.lt_of_lt_of_le l2 hb.size
      have HB := hid hb; clear hb
      go_wp2_with fail
      obtain ⟨X, hX, ⟨k5, k6⟩, hv, l5, hWV, HWV, HXX2⟩ := rebase HB (.int .i64 x) (.int .i64 y) 23
      rw [hX]; clear hX hc hf j1 j2
      generalize w2.heap.size = g at k5 k6 l5 ⊢
      have k1 := (hv.out _ _ l1).trans q1
      have k2 := (hv.out _ _ l1).trans q2
      have k3 := (hv.out _ _ l2).trans q3
      have k4 := (hv.out _ _ l2).trans q4
      have k7 := (hv.out _ _ l4).trans s0
      have k8 := (hv.out _ _ l4).trans s1
      have k9 := (hv.out _ _ l3).trans s2
      have k10 := (hv.out _ _ l3).trans s3
      have l1 := Nat.lt_of_lt_of_le l1 hWV
      have l2 := Nat.lt_of_lt_of_le l2 hWV
      have l3 := Nat.lt_of_lt_of_le l3 hWV
      have l4 := Nat.lt_of_lt_of_le l4 hWV
      have HWX := hid (HW.out.trans (HWV.out.mono HW.out.size))
      have HVX : Hid (∀ w', Hid (Below X.heap.size X w') → SlV w' w'.heap.size (.slice A l.length cp) l) := hid (fun w' h => by
        have hb := HWX.out.trans (h.out.mono HWX.out.size)
        exact (HV.out.below hb).mono hb.size)
      clear hv hWV HWV HB HVW HW q1 q2 q3 q4 s0 s1 s2 s3
      refine region_all (T := fun k => ((slotsR (.slice A l.length cp) n0 g7 g a1 a2 b1 b2 x y xb p q r s d1 d2 c rt z lt).getD k .any).ok) (G := fun w' => Hid (Below X.heap.size X w')) (bs := [2, 3, 4, 7, 8, 11]) 115 (by kernel_rfl) rfl (by kernel_rfl) (fun k u w w' => Kd.stable _ u w w') (hid (Below.refl _ _).drew) ?_ ?_ ?_
      · refine List.forall_mem_cons.2 ⟨rfl, List.forall_mem_cons.2 ⟨rfl, List.forall_mem_cons.2 ⟨rfl, List.forall_mem_cons.2 ⟨rfl, List.forall_mem_cons.2 ⟨rfl, List.forall_mem_cons.2 ⟨rfl, ?_⟩⟩⟩⟩⟩⟩
        intro k hk; cases hk
      · repeat' (first | exact StepAll.nil | refine StepAll.append ?_ ?_ | refine StepAll.cons ?_ ?_)
        all_goals refine .inl ⟨?_, ?_⟩
        all_goals first
          | exact guard_none rfl
          | exact guard_some rfl rfl (fun u w h => h)
          | skip
        all_goals intro K a w' hK hG H
        all_goals obtain ⟨hc, hf⟩ := bcell hG.out
        all_goals first
          | (obtain ⟨h1, h2, h3, -⟩ := H; change a.tmps.getD _ undef = _ at h1; have g1 := h1; rw [Array.getD_eq_getD_getElem?] at g1; change a.tmps.getD _ undef = _ at h2; have g2 := h2; rw [Array.getD_eq_getD_getElem?] at g2; change a.tmps.getD _ undef = _ at h3; have g3 := h3; rw [Array.getD_eq_getD_getElem?] at g3)
          | (obtain ⟨h1, h2, -⟩ := H; change a.tmps.getD _ undef = _ at h1; have g1 := h1; rw [Array.getD_eq_getD_getElem?] at g1; change a.tmps.getD _ undef = _ at h2; have g2 := h2; rw [Array.getD_eq_getD_getElem?] at g2)
          | (obtain ⟨h1, -⟩ := H; change a.tmps.getD _ undef = _ at h1; have g1 := h1; rw [Array.getD_eq_getD_getElem?] at g1)
          | skip
        all_goals go_simp
        all_goals first
          | (go_at_call 9; (with_reducible refine (of_pq a1 a2 x y IA HX HY _).mono ?_); (rintro e w'' ⟨rfl, hb⟩; exact hK _ _ (fun d hd => by cases hd; exact rfl) (hid (hG.out.trans (hb.mono hG.out.size))) hb))
          | (go_at_call 10; (with_reducible refine (right_pq a1 a2 rt IA HRT _).mono ?_); (rintro e w'' ⟨rfl, hb⟩; exact hK _ _ (fun d hd => by cases hd; exact rfl) (hid (hG.out.trans (hb.mono hG.out.size))) hb))
          | (go_at_call 11; refine (add_pq _ l p q HS1 HI (by omega) _ (HVX.out _ hG)).mono ?_; (rintro e w'' ⟨rfl, hb⟩; exact hK _ _ (fun d hd => by cases hd; exact rfl) (hid (hG.out.trans (hb.mono hG.out.size))) hb))
          | (go_at_call 12; refine (mul_pq _ l r s HP1 HI (by omega) _ (HVX.out _ hG)).mono ?_; (rintro e w'' ⟨rfl, hb⟩; exact hK _ _ (fun d hd => by cases hd; exact rfl) (hid (hG.out.trans (hb.mono hG.out.size))) hb))
          | (go_at_call 13; (with_reducible refine (sub_pq a1 a2 b1 b2 d1 d2 IA IB HD1 HD2 _).mono ?_); (rintro e w'' ⟨rfl, hb⟩; exact hK _ _ (fun d hd => by cases hd; exact rfl) (hid (hG.out.trans (hb.mono hG.out.size))) hb))
          | (go_at_call 14; (with_reducible refine (refsub_pq a1 a2 b1 b2 d1 d2 HD1 HD2 _).mono ?_); (rintro e w'' ⟨rfl, hb⟩; exact hK _ _ (fun d hd => by cases hd; exact rfl) (hid (hG.out.trans (hb.mono hG.out.size))) hb))
          | (go_at_call 15; (with_reducible refine (conj_pq a1 a2 x c IA HX HC _).mono ?_); (rintro e w'' ⟨rfl, hb⟩; exact hK _ _ (fun d hd => by cases hd; exact rfl) (hid (hG.out.trans (hb.mono hG.out.size))) hb))
          | (go_at_call 16; (with_reducible refine (turn_pq a1 a2 c x IA HC HX _).mono ?_); (rintro e w'' ⟨rfl, hb⟩; exact hK _ _ (fun d hd => by cases hd; exact rfl) (hid (hG.out.trans (hb.mono hG.out.size))) hb))
          | (go_at_call 8; (with_reducible refine (refof_pq x (-y) x c HXX HCY _).mono ?_); (rintro e w'' ⟨rfl, hb⟩; exact hK _ _ (fun d hd => by cases hd; exact rfl) (hid (hG.out.trans (hb.mono hG.out.size))) hb))
          | (go_at_call 8; (with_reducible refine (refof_pq (-y) x c x HCY HXX _).mono ?_); (rintro e w'' ⟨rfl, hb⟩; exact hK _ _ (fun d hd => by cases hd; exact rfl) (hid (hG.out.trans (hb.mono hG.out.size))) hb))
          | (go_at_call 17; (with_reducible refine (zero_pq a1 a2 z IA HZ _).mono ?_); (rintro e w'' ⟨rfl, hb⟩; exact hK _ _ (fun d hd => by cases hd; exact rfl) (hid (hG.out.trans (hb.mono hG.out.size))) hb))
          | (go_at_call 18; (with_reducible refine (less_pq a1 a2 b1 b2 lt IA IB HLT _).mono ?_); (rintro e w'' ⟨rfl, hb⟩; exact hK _ _ (fun d hd => by cases hd; exact rfl) (hid (hG.out.trans (hb.mono hG.out.size))) hb))
          | (go_at_call 19; (with_reducible refine (refinto_pq b1 xb HXB _).mono ?_); (rintro e w'' ⟨rfl, hb⟩; exact hK _ _ (fun d hd => by cases hd; exact rfl) (hid (hG.out.trans (hb.mono hG.out.size))) hb))
          | exact hK _ _ (fun d hd => by cases hd; exact rfl) hG (Below.refl _ _)
          | skip
      · intro a w' hd _ hG _ hval
        have h6 : a.tmps.getD 6 undef = .bool true := hval 6 (by kernel_rfl)
        clear hval
        rw [Array.getD_eq_getD_getElem?] at h6
        go_wp2
        exact bodyPost_ret (v := .bool true) (by simp [results, Try.results3, go_sem, h6]) hd ⟨rfl, HWX.out.trans (hG.out.mono HWX.out.size)⟩

end Go.Proofs.Ytgkhmhbmdmjacaa
