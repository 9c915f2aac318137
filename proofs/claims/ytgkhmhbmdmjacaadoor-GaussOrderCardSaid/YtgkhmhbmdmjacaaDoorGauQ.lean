/- Layer 3, gauss: the walk of GaussOrder. -/
import Derived.Test.YtgkhmhbmdmjacaaDoorGauS
import Derived.Test.YtgkhmhbmdmjacaaDoorRegQ
import Derived.Test.YtgkhmhbmdmjacaaDoorGauR
import Derived.Deep.RegionHeld3
namespace Go.Proofs.YtgkhmhbmdmjacaaDoor
open Go.RowKit
set_option linter.unusedVariables false

/-- What a slot of the third region holds. -/
inductive Kb
  | is (v : Value)
  | box (n : Nat)
  | any

def Kb.ok (k : Kb) (u : Value) (w : World) : Prop :=
  match k with
  | .is v => u = v
  | .box n => ∃ g, u = .pointer (some ⟨g, 0, none⟩) ∧ n ≤ g ∧ g < w.heap.size ∧ w.cell? ⟨g, 0, none⟩ = some (.int .i64 0) ∧ w.cell? ⟨g, 1, none⟩ = some (.int .i64 0) ∧ w.frozen? ⟨g, 0, none⟩ = false ∧ w.frozen? ⟨g, 1, none⟩ = false
  | .any => True

theorem Kb.stable (k : Kb) (u : Value) (w w' : World) (h : k.ok u w) (hb : Below w.heap.size w w') : k.ok u w' := by
  cases k with
  | is v => exact h
  | box n =>
    obtain ⟨g, h1, h2, h3, h4, h5, h6, h7⟩ := h
    exact ⟨g, h1, h2, Nat.lt_of_lt_of_le h3 hb.size, ((bcell hb).1 _ _ h3).trans h4, ((bcell hb).1 _ _ h3).trans h5, ((bcell hb).2 _ _ h3).trans h6, ((bcell hb).2 _ _ h3).trans h7⟩
  | any => trivial

/-- The boxes in the slots 5 and 6 are of the heap, and two. -/
def BoxJ (a : Act) (w : World) : Prop :=
  (∀ g, a.tmps.getD 5 undef = .pointer (some ⟨g, 0, none⟩) → g < w.heap.size) ∧ (∀ g, a.tmps.getD 6 undef = .pointer (some ⟨g, 0, none⟩) → g < w.heap.size) ∧
  ∀ g, a.tmps.getD 5 undef = .pointer (some ⟨g, 0, none⟩) → a.tmps.getD 6 undef ≠ .pointer (some ⟨g, 0, none⟩)

theorem BoxJ.other {a : Act} {w w' : World} (h : BoxJ a w) (hb : Below w.heap.size w w') (k : Nat) (v : Value) (h5 : k ≠ 5) (h6 : k ≠ 6) : BoxJ (a.put (some k) v) w' := by
  unfold BoxJ
  rw [getD_put_ne (k := 5) (by simpa using h5), getD_put_ne (k := 6) (by simpa using h6)]
  exact ⟨fun g e => Nat.lt_of_lt_of_le (h.1 g e) hb.size, fun g e => Nat.lt_of_lt_of_le (h.2.1 g e) hb.size, h.2.2⟩

theorem BoxJ.five {a : Act} {w w' : World} (h : BoxJ a w) (hb : Below w.heap.size w w') (hs : w.heap.size < w'.heap.size) : BoxJ (a.put (some 5) (.pointer (some ⟨w.heap.size, 0, none⟩))) w' := by
  unfold BoxJ
  rw [getD_put_ne (k := 6) (by decide)]
  by_cases h5 : 5 < a.tmps.size
  · rw [getD_put_self h5]
    refine ⟨fun g e => ?_, fun g e => Nat.lt_of_lt_of_le (h.2.1 g e) hb.size, fun g e e' => ?_⟩
    · injection e with e; injection e with e; injection e with e; omega
    · injection e with e; injection e with e; injection e with e; have := h.2.1 g e'; omega
  · have h6 : (a.put (some 5) (.pointer (some ⟨w.heap.size, 0, none⟩))).tmps.getD 5 undef = a.tmps.getD 5 undef := by
      simp [Act.put, Array.getD_eq_getD_getElem?, h5]
    rw [h6]
    exact ⟨fun g e => Nat.lt_of_lt_of_le (h.1 g e) hb.size, fun g e => Nat.lt_of_lt_of_le (h.2.1 g e) hb.size, h.2.2⟩

theorem BoxJ.six {a : Act} {w w' : World} (h : BoxJ a w) (hb : Below w.heap.size w w') (hs : w.heap.size < w'.heap.size) : BoxJ (a.put (some 6) (.pointer (some ⟨w.heap.size, 0, none⟩))) w' := by
  unfold BoxJ
  rw [getD_put_ne (k := 5) (by decide)]
  by_cases h5 : 6 < a.tmps.size
  · rw [getD_put_self h5]
    refine ⟨fun g e => Nat.lt_of_lt_of_le (h.1 g e) hb.size, fun g e => ?_, fun g e e' => ?_⟩
    · injection e with e; injection e with e; injection e with e; omega
    · injection e' with e'; injection e' with e'; injection e' with e'; have := h.1 g e; omega
  · have h6 : (a.put (some 6) (.pointer (some ⟨w.heap.size, 0, none⟩))).tmps.getD 6 undef = a.tmps.getD 6 undef := by
      simp [Act.put, Array.getD_eq_getD_getElem?, h5]
    rw [h6]
    exact ⟨fun g e => Nat.lt_of_lt_of_le (h.1 g e) hb.size, fun g e => Nat.lt_of_lt_of_le (h.2.1 g e) hb.size, h.2.2⟩

/-- The slots of the third region. -/
def slotsQ (n0 n : Nat) (a1 a2 b1 b2 x1 x2 y1 y2 : Int) : List Kb :=
  [.any, .any, .is (.pointer (some ⟨n0, 0, none⟩)), .is (.pointer (some ⟨n0 + 1, 0, none⟩)), .any, .box n, .box n, .any, .any, .any, .any, .is (.pointer (some ⟨n0, 0, none⟩)), .is (.int .i64 a1), .is (.pointer (some ⟨n0, 1, none⟩)), .is (.int .i64 a2), .is (val x1 x2), .is (.pointer (some ⟨n0 + 1, 0, none⟩)), .is (.int .i64 b1), .is (.pointer (some ⟨n0 + 1, 1, none⟩)), .is (.int .i64 b2), .is (val y1 y2)]

theorem wpOp_at {P : Program} {ops : Array Oper} {Q : Exit → Act → World → Prop} {i : Nat} {o : Oper} (ho : ops[i]? = some o) (hg : o.guard = none) {K : Act → World → Prop} {a : Act} {w : World} (h : o.wp P a w K Q) : wpOp P ops Q i K a w := by
  unfold wpOp
  simp only [ho]
  rw [show Region.wanted o (yielded ops a.tmps) = true by unfold Region.wanted; rw [hg], if_pos rfl]
  exact .inl h

theorem unwritten {ops : Array Oper} {k : Nat} (h : (ops.all fun o => o.dst != some k) = true) (j : Nat) (o : Oper) (ho : ops[j]? = some o) : o.dst ≠ some k := by
  have := Array.all_eq_true'.1 h o (Array.mem_of_getElem? ho)
  simpa using this

theorem of_pq' (a b p q : Int) (h1 : Hid (I64 a ∧ I64 b)) (hp : Hid (into a = p)) (hq : Hid (into b = q)) (w : World) :
    Calls Tryd.prog 10 #[.int .i64 a, .int .i64 b] w fun e w' => e = .returned (val p q) ∧ Below w.heap.size w w' :=
  (of_any a b h1.out.1 h1.out.2 w).mono fun e w' ⟨he, hb⟩ => ⟨by rw [he, hp.out, hq.out], hb⟩

/-- The slots of the last region. -/
def slotsO (n0 g5 g6 : Nat) (a1 a2 b1 b2 x1 x2 y1 y2 d1 e1 : Int) (one two ot e : Bool) (u29 u35 : Value) (S1 S2 : ByteArray) : List Kd :=
  [.any, .any, .is (.pointer (some ⟨n0, 0, none⟩)), .is (.pointer (some ⟨n0 + 1, 0, none⟩)), .is (.bool true), .is (.pointer (some ⟨g5, 0, none⟩)), .is (.pointer (some ⟨g6, 0, none⟩)), .is (.bool one), .is (.bool two), .any, .any, .any, .any, .any, .any, .any, .any, .any, .any, .any, .any, .any, .any, .any, .any, .any, .any, .is (.bool one), .is (.bool one), .is u29, .is (.bool false), .is (.bool true), .is (.bool true), .is (.bool one), .is (.bool one), .is u35, .is (.bool ot), .is (.pointer (some ⟨g5, 0, none⟩)), .is (.int .i64 x1), .is (.pointer (some ⟨g6, 0, none⟩)), .is (.int .i64 y1), .is (.bool ot), .is (.bool true), .is (.bool true), .is (.bool true), .is (val x1 x2), .is (.string S1), .is (val y1 y2), .is (.string S2), .is (.bool e), .is (val x1 x2), .is (val y1 y2), .is (.bool e), .is (.bool true), .is (.bool true), .is (.bool true), .is (val a1 a2), .is (val x1 d1), .is (val b1 b2), .is (val y1 e1), .is (.bool one), .is (.bool one), .is (.bool true), .is (.bool true)]

theorem guard_false {ops : Array Oper} {T : Nat → Value → World → Prop} {o : Oper} {g : Nat} {b : Bool} {d : Tmp} (h : o.guard = some (g, b)) (hd : (ops[g]?).bind (·.dst) = some d) (ht : ∀ u w, T d u w → u = .bool (!b)) : GuardIs ops T o false := by
  unfold GuardIs; rw [h]; exact ⟨d, hd, ht⟩

/-- What the two boxes hold in the end. -/
theorem ord_st {V w' : World} {g h : Nat} {p q r s : Value} (hV : Hid (Below V.heap.size V w')) (hg : V.heap.size ≤ g) (hh : V.heap.size ≤ h) (hne : ¬ g = h) (hgl : g < w'.heap.size) (hhl : h < w'.heap.size) {c1 c2 c3 c4 : Value}
    (c1 : w'.cell? ⟨g, 0, none⟩ = some c1) (c2 : w'.cell? ⟨g, 1, none⟩ = some c2) (c3 : w'.cell? ⟨h, 0, none⟩ = some c3) (c4 : w'.cell? ⟨h, 1, none⟩ = some c4) :
    ∃ X : World, (((w'.setCell ⟨g, 0, none⟩ p).setCell ⟨g, 1, none⟩ q).setCell ⟨h, 0, none⟩ r).setCell ⟨h, 1, none⟩ s = X ∧ X.cell? ⟨g, 0, none⟩ = some p ∧ X.cell? ⟨g, 1, none⟩ = some q ∧ X.cell? ⟨h, 0, none⟩ = some r ∧ X.cell? ⟨h, 1, none⟩ = some s ∧ g < X.heap.size ∧ h < X.heap.size ∧ Hid (Below V.heap.size V X) := by
  have hne' : ¬ h = g := fun e => hne e.symm
  refine ⟨_, rfl, ?_, ?_, ?_, ?_, ?_, ?_, hid ((((hV.out.setCell hg _).setCell hg _).setCell hh _).setCell hh _)⟩
  all_goals go_simp

theorem tri (x1 y1 : Int) : ∃ one two ot : Bool, decide (x1 < y1) = one ∧ decide (y1 < x1) = two ∧ decide (x1 = y1) = !ot ∧ ((one = true ∧ two = false ∧ ot = true) ∨ (one = false ∧ two = true ∧ ot = true) ∨ (one = false ∧ two = false ∧ ot = false)) := by
  refine ⟨_, _, !decide (x1 = y1), rfl, rfl, by simp, ?_⟩
  simp only [decide_eq_true_eq, decide_eq_false_iff_not, Bool.not_eq_true', Bool.not_eq_false']
  omega

theorem text_pq (p q : Int) (S : ByteArray) (hp : Hid (into p = p)) (hq : Hid (into q = q)) (hS : Hid ((⟨(textOf p q).toArray⟩ : ByteArray) = S)) (w : World) (ht : Tab w) :
    Calls Tryd.prog 7 #[val p q] w fun e w' => e = .returned (.string S) ∧ Below w.heap.size w w' :=
  text_any p q (by rw [← hp.out]; exact into_i64 p) (by rw [← hq.out]; exact into_i64 q) S (hid (by rw [hp.out, hq.out]; exact hS.out)) w ht

theorem eql_rule (a b c d : Int) (e : Bool) (he : (decide (a = c) && decide (b = d)) = e) : ∀ w : World, (binOp .eql 23 (val a b) (val c d)).run Tryd.prog w = .ok (.bool e) w := fun w => by rw [eql_val, he]

set_option maxRecDepth 100000 in
set_option maxHeartbeats 4000000 in
theorem law_order (a1 a2 b1 b2 : Int) (w : World) (ha1 : (Lit.int .i64 a1).wf = true) (ha2 : (Lit.int .i64 a2).wf = true) (hb1 : (Lit.int .i64 b1).wf = true) (hb2 : (Lit.int .i64 b2).wf = true) (ht : Tab w) :
    Calls Tryd.prog 4 #[val a1 a2, val b1 b2] w fun e w' => e = .returned (.bool true) ∧ Below w.heap.size w w' := by
  have IA : Hid (I64 a1 ∧ I64 a2) := hid ⟨i64_of ha1, i64_of ha2⟩
  have IB : Hid (I64 b1 ∧ I64 b2) := hid ⟨i64_of hb1, i64_of hb2⟩
  clear ha1 ha2 hb1 hb2
  have HT := hid ht; clear ht
  obtain ⟨x1, hx1⟩ : ∃ x, into a1 = x := ⟨_, rfl⟩
  obtain ⟨x2, hx2⟩ : ∃ x, into a2 = x := ⟨_, rfl⟩
  obtain ⟨y1, hy1⟩ : ∃ x, into b1 = x := ⟨_, rfl⟩
  obtain ⟨y2, hy2⟩ : ∃ x, into b2 = x := ⟨_, rfl⟩
  have HX1 := hid hx1; have HX2 := hid hx2; have HY1 := hid hy1; have HY2 := hid hy2
  clear hx1 hx2 hy1 hy2
  go_enter Tryd.func4, Tryd.ntmps4
  go_wp2_with fail
  obtain ⟨W0, hW, ⟨k1, k2, k3, k4⟩, ⟨l1, l2⟩, _, HW0⟩ := cells2 w (.int .i64 a1) (.int .i64 a2) (.int .i64 b1) (.int .i64 b2) 23
  rw [hW]; clear hW
  refine (awake3 W0).mono ?_
  rintro e V ⟨rfl, hb⟩
  obtain ⟨hc', hf'⟩ := bcell hb
  have k1 := (hc' _ _ l1).trans k1
  have k2 := (hc' _ _ l1).trans k2
  have k3 := (hc' _ _ l2).trans k3
  have k4 := (hc' _ _ l2).trans k4
  have l1 := Nat.lt_of_lt_of_le l1 hb.size
  have l2 := Nat.lt_of_lt_of_le l2 hb.size
  have HV := hid (HW0.out.trans (hb.mono HW0.out.size))
  have HTV := hid (HT.out.below HV.out)
  clear hc' hf' hb HW0
  generalize w.heap.size = n0 at k1 k2 k3 k4 l1 l2 ⊢
  have hb00 : Hid (Below V.heap.size V V) := hid (Below.refl _ V)
  go_wp2_with fail
  refine region_split (T := fun k => ((slotsQ n0 V.heap.size a1 a2 b1 b2 x1 x2 y1 y2).getD k .any).ok) (G := fun w' => Hid (Below V.heap.size V w')) (J := BoxJ) (bs := [2, 3]) 64 12 5 (by kernel_rfl) rfl (by kernel_rfl) (by kernel_rfl) (fun k u w w' => Kb.stable _ u w w') (hid (Below.refl _ _).drew) ⟨fun g e => (by simp at e; cases e), fun g e => (by simp at e; cases e), fun g e => (by simp at e; cases e)⟩ ?_ ?_ ?_
  · refine List.forall_mem_cons.2 ⟨rfl, List.forall_mem_cons.2 ⟨rfl, ?_⟩⟩
    intro k hk; cases hk
  · repeat' (first | exact StepsJ.nil | refine StepsJ.cons ?_ ?_)
    all_goals refine ⟨guard_none rfl, ?_⟩
    all_goals intro K a w' hK hG hJ H
    all_goals obtain ⟨hc, hf⟩ := bcell hG.out
    all_goals first
      | (obtain ⟨h1, h2, -⟩ := H; change a.tmps.getD _ undef = _ at h1; have g1 := h1; rw [Array.getD_eq_getD_getElem?] at g1; change a.tmps.getD _ undef = _ at h2; have g2 := h2; rw [Array.getD_eq_getD_getElem?] at g2)
      | (obtain ⟨h1, -⟩ := H; change a.tmps.getD _ undef = _ at h1; have g1 := h1; rw [Array.getD_eq_getD_getElem?] at g1)
      | skip
    all_goals go_simp
    all_goals first
      | (go_at_call 10; (with_reducible refine (of_pq' a1 a2 x1 x2 IA HX1 HX2 _).mono ?_); (rintro e w'' ⟨rfl, hb⟩; exact hK _ _ (fun d hd => by cases hd; exact rfl) (hid (hG.out.trans (hb.mono hG.out.size))) hb (hJ.other hb _ _ (by decide) (by decide))))
      | (go_at_call 10; (with_reducible refine (of_pq' b1 b2 y1 y2 IB HY1 HY2 _).mono ?_); (rintro e w'' ⟨rfl, hb⟩; exact hK _ _ (fun d hd => by cases hd; exact rfl) (hid (hG.out.trans (hb.mono hG.out.size))) hb (hJ.other hb _ _ (by decide) (by decide))))
      | exact hK _ _ (fun d hd => by cases hd; exact rfl) hG (Below.refl _ _) (hJ.other (Below.refl _ _) _ _ (by decide) (by decide))
      | exact hK _ _ (fun d hd => by cases hd; exact ⟨_, rfl, hG.out.size, by simp, by simp, by simp, by simp, by simp⟩) (hid (hG.out.alloc hG.out.size _)) ((Below.refl _ _).alloc (Nat.le_refl _) _) (hJ.five ((Below.refl _ _).alloc (Nat.le_refl _) _) (by simp))
      | exact hK _ _ (fun d hd => by cases hd; exact ⟨_, rfl, hG.out.size, by simp, by simp, by simp, by simp, by simp⟩) (hid (hG.out.alloc hG.out.size _)) ((Below.refl _ _).alloc (Nat.le_refl _) _) (hJ.six ((Below.refl _ _).alloc (Nat.le_refl _) _) (by simp))
  · intro a w' hd hn hG hJ hkeep hval
    obtain ⟨g5, h5, g5a, g5b, c1, c2, f1, f2⟩ := hval 5 (by kernel_rfl)
    obtain ⟨g6, h6, g6a, g6b, c3, c4, f3, f4⟩ := hval 6 (by kernel_rfl)
    have h15 : a.tmps.getD 15 undef = val x1 x2 := hval 15 (by kernel_rfl)
    have h20 : a.tmps.getD 20 undef = val y1 y2 := hval 20 (by kernel_rfl)
    have h2 : a.tmps.getD 2 undef = .pointer (some ⟨n0, 0, none⟩) := hkeep 2 (by decide) (unwritten (by kernel_rfl))
    have h3 : a.tmps.getD 3 undef = .pointer (some ⟨n0 + 1, 0, none⟩) := hkeep 3 (by decide) (unwritten (by kernel_rfl))
    have hne : ¬ g5 = g6 := fun e => hJ.2.2 g5 h5 (e ▸ h6)
    clear hval hkeep hJ
    obtain ⟨u, hu⟩ : ∃ u : Nat → Value, u = fun k => a.tmps.getD k undef := ⟨_, rfl⟩
    have ha : a = ⟨#[u 0, u 1, u 2, u 3, u 4, u 5, u 6, u 7, u 8, u 9, u 10, u 11, u 12, u 13, u 14, u 15, u 16, u 17, u 18, u 19, u 20, u 21, u 22, u 23, u 24, u 25, u 26, u 27, u 28, u 29, u 30, u 31, u 32, u 33, u 34, u 35, u 36, u 37, u 38, u 39, u 40, u 41, u 42, u 43, u 44, u 45, u 46, u 47, u 48, u 49, u 50, u 51, u 52, u 53, u 54, u 55, u 56, u 57, u 58, u 59, u 60, u 61, u 62, u 63], a.defers⟩ := by
      rw [hu]; exact frame_eq hn
    have e2 : u 2 = _ := (congrFun hu 2).trans h2
    have e3 : u 3 = _ := (congrFun hu 3).trans h3
    have e5 : u 5 = _ := (congrFun hu 5).trans h5
    have e6 : u 6 = _ := (congrFun hu 6).trans h6
    have e15 : u 15 = _ := (congrFun hu 15).trans h15
    have e20 : u 20 = _ := (congrFun hu 20).trans h20
    rw [e2, e3, e5, e6, e15, e20, hd] at ha
    clear hd hn h2 h3 h5 h6 h15 h20 hu
    subst ha
    clear e2 e3 e5 e6 e15 e20
    show wpOp _ _ _ 12 (wpRest _ _ _ [13]) _ w'
    refine wpOp_at rfl rfl ?_
    go_simp
    show wpOp _ _ _ 13 (wpRest _ _ _ []) _ _
    refine wpOp_at rfl rfl ?_
    go_simp
    unfold wpRest
    obtain ⟨X, hX, m1, m2, m3, m4, m5, m6, HVX⟩ := ord_st (p := .int .i64 x1) (q := .int .i64 x2) (r := .int .i64 y1) (s := .int .i64 y2) hG g5a g6a hne g5b g6b c1 c2 c3 c4
    rw [hX]
    clear hX c1 c2 c3 c4 f1 f2 f3 f4 g5a g6a hne g5b g6b
    obtain ⟨hc, hf⟩ := bcell HVX.out
    have k1 := (hc _ _ l1).trans k1
    have k2 := (hc _ _ l1).trans k2
    have k3 := (hc _ _ l2).trans k3
    have k4 := (hc _ _ l2).trans k4
    have l1 := Nat.lt_of_lt_of_le l1 HVX.out.size
    have l2 := Nat.lt_of_lt_of_le l2 HVX.out.size
    have HX := hid (HV.out.trans (HVX.out.mono HV.out.size))
    have HTX := hid (HTV.out.below HVX.out)
    clear hc hf HVX hG hb00
    obtain ⟨one, two, ot, ho, ht, hot, hcase⟩ := tri x1 y1
    have HO := hid ho; have HTW := hid ht; have HC := hid hcase; clear ho ht hcase
    have HP1 : Hid (decide (into a1 < into b1) = one) := hid (by rw [HX1.out, HY1.out]; exact HO.out)
    have HP2 : Hid (decide (into b1 < into a1) = two) := hid (by rw [HX1.out, HY1.out]; exact HTW.out)
    go_wp2_with fail
    refine (less_pq a1 a2 b1 b2 one IA IB HP1 _).mono ?_
    rintro e w1 ⟨rfl, hb⟩
    obtain ⟨hc, hf⟩ := bcell hb
    have HB1 := hid hb; clear hb
    go_wp2_with fail
    refine (less_pq b1 b2 a1 a2 two IB IA HP2 _).mono ?_
    rintro e Y ⟨rfl, hb⟩
    have HXY := hid (HB1.out.trans (hb.mono HB1.out.size))
    clear hc hf hb HB1
    obtain ⟨hc, hf⟩ := bcell HXY.out
    have k1 := (hc _ _ l1).trans k1
    have k2 := (hc _ _ l1).trans k2
    have k3 := (hc _ _ l2).trans k3
    have k4 := (hc _ _ l2).trans k4
    have m1 := (hc _ _ m5).trans m1
    have m2 := (hc _ _ m5).trans m2
    have m3 := (hc _ _ m6).trans m3
    have m4 := (hc _ _ m6).trans m4
    have l1 := Nat.lt_of_lt_of_le l1 HXY.out.size
    have l2 := Nat.lt_of_lt_of_le l2 HXY.out.size
    have m5 := Nat.lt_of_lt_of_le m5 HXY.out.size
    have m6 := Nat.lt_of_lt_of_le m6 HXY.out.size
    have HY := hid (HX.out.trans (HXY.out.mono HX.out.size))
    have HTY := hid (HTX.out.below HXY.out)
    clear hc hf HXY HTX HX HP1 HP2
    obtain ⟨d1, hd1⟩ : ∃ x, into (-into a2) = x := ⟨_, rfl⟩
    obtain ⟨e1, he1⟩ : ∃ x, into (-into b2) = x := ⟨_, rfl⟩
    have HD1 := hid hd1; have HE1 := hid he1
    have IX1 : Hid (I64 x1 ∧ I64 d1) := hid ⟨by rw [← HX1.out]; exact into_i64 _, by rw [← hd1]; exact into_i64 _⟩
    have IY1 : Hid (I64 y1 ∧ I64 e1) := hid ⟨by rw [← HY1.out]; exact into_i64 _, by rw [← he1]; exact into_i64 _⟩
    have JX1 : Hid (into x1 = x1) := hid (by rw [← HX1.out, into_into])
    have JX2 : Hid (into x2 = x2) := hid (by rw [← HX2.out, into_into])
    have JY1 : Hid (into y1 = y1) := hid (by rw [← HY1.out, into_into])
    have JY2 : Hid (into y2 = y2) := hid (by rw [← HY2.out, into_into])
    have HP3 : Hid (decide (into x1 < into y1) = one) := hid (by rw [JX1.out, JY1.out]; exact HO.out)
    clear hd1 he1 HO HTW
    obtain ⟨S1, hS1⟩ : ∃ S : ByteArray, (⟨(textOf x1 x2).toArray⟩ : ByteArray) = S := ⟨_, rfl⟩
    obtain ⟨S2, hS2⟩ : ∃ S : ByteArray, (⟨(textOf y1 y2).toArray⟩ : ByteArray) = S := ⟨_, rfl⟩
    obtain ⟨eq, heq⟩ : ∃ e : Bool, (decide (x1 = y1) && decide (x2 = y2)) = e := ⟨_, rfl⟩
    have hse : decide (S1 = S2) = eq := by
      rw [← heq, ← Bool.decide_and]
      refine decide_eq_decide.2 ⟨fun h => ?_, fun h => ?_⟩
      · rw [← hS1, ← hS2] at h
        have h1 : (textOf x1 x2).toArray = (textOf y1 y2).toArray := congrArg ByteArray.data h
        have h2 := congrArg Array.toList h1
        rw [← JX1.out, ← JX2.out, ← JY1.out, ← JY2.out] at h2 ⊢
        exact text_inj (into_small _) (into_small _) (into_small _) (into_small _) h2
      · rw [← hS1, ← hS2, h.1, h.2]
    have hst : (S1.toList == S2.toList) = eq := by
      rw [← hse]
      by_cases h : S1 = S2
      · rw [str_beq h, decide_eq_true h]
      · rw [str_bne h, decide_eq_false h]
    have hxy : (x1 != y1) = ot := by
      rw [bne, show (x1 == y1) = decide (x1 = y1) from rfl, hot, Bool.not_not]
    have HXY := hid hxy; have HST := hid hst
    clear hse hxy hst hot
    have heqv := eql_rule x1 x2 y1 y2 eq heq
    have HS1 := hid hS1; have HS2 := hid hS2
    clear hS1 hS2 heq
    go_wp2_with fail
    rcases HC.out with ⟨rfl, rfl, rfl⟩ | ⟨rfl, rfl, rfl⟩ | ⟨rfl, rfl, rfl⟩
    all_goals clear HC
    refine region_all (T := fun k => ((slotsO n0 g5 g6 a1 a2 b1 b2 x1 x2 y1 y2 d1 e1 true false true eq (.bool false) undef S1 S2).getD k .any).ok) (G := fun w' => Hid (Below Y.heap.size Y w')) (bs := [2, 3, 5, 6, 7, 8]) 64 (by kernel_rfl) rfl (by kernel_rfl) (fun k u w w' => Kd.stable _ u w w') (hid (Below.refl _ _).drew) ?_ ?_ ?_
    rotate_left 3
    refine region_all (T := fun k => ((slotsO n0 g5 g6 a1 a2 b1 b2 x1 x2 y1 y2 d1 e1 false true true eq undef (.bool true) S1 S2).getD k .any).ok) (G := fun w' => Hid (Below Y.heap.size Y w')) (bs := [2, 3, 5, 6, 7, 8]) 64 (by kernel_rfl) rfl (by kernel_rfl) (fun k u w w' => Kd.stable _ u w w') (hid (Below.refl _ _).drew) ?_ ?_ ?_
    rotate_left 3
    refine region_all (T := fun k => ((slotsO n0 g5 g6 a1 a2 b1 b2 x1 x2 y1 y2 d1 e1 false false false eq undef (.bool false) S1 S2).getD k .any).ok) (G := fun w' => Hid (Below Y.heap.size Y w')) (bs := [2, 3, 5, 6, 7, 8]) 64 (by kernel_rfl) rfl (by kernel_rfl) (fun k u w w' => Kd.stable _ u w w') (hid (Below.refl _ _).drew) ?_ ?_ ?_
    all_goals first
      | (refine List.forall_mem_cons.2 ⟨rfl, List.forall_mem_cons.2 ⟨rfl, List.forall_mem_cons.2 ⟨rfl, List.forall_mem_cons.2 ⟨rfl, List.forall_mem_cons.2 ⟨rfl, List.forall_mem_cons.2 ⟨rfl, ?_⟩⟩⟩⟩⟩⟩; intro k hk; cases hk)
      | (intro a w' hd _ hG _ hval
         have h4 : a.tmps.getD 4 undef = .bool true := hval 4 (by kernel_rfl)
         clear hval
         rw [Array.getD_eq_getD_getElem?] at h4
         go_wp2
         exact bodyPost_ret (v := .bool true) (by simp [results, Tryd.results4, go_sem, h4]) hd ⟨rfl, HY.out.trans (hG.out.mono HY.out.size)⟩)
      | skip
    all_goals repeat' (first | exact StepAll.nil | refine StepAll.append ?_ ?_ | refine StepAll.cons ?_ ?_)
    all_goals first
      | (refine .inl ⟨guard_none rfl, ?_⟩)
      | (refine .inl ⟨guard_some rfl rfl (fun u w h => h), ?_⟩)
      | (refine .inr ⟨guard_false rfl rfl (fun u w h => h), fun w _ d hd => ?_⟩; cases hd; exact rfl)
    all_goals intro K a w' hK hG H
    all_goals obtain ⟨hc, hf⟩ := bcell hG.out
    all_goals first
      | (obtain ⟨h1, h2, h3, -⟩ := H; change a.tmps.getD _ undef = _ at h1; have g1 := h1; rw [Array.getD_eq_getD_getElem?] at g1; change a.tmps.getD _ undef = _ at h2; have g2 := h2; rw [Array.getD_eq_getD_getElem?] at g2; change a.tmps.getD _ undef = _ at h3; have g3 := h3; rw [Array.getD_eq_getD_getElem?] at g3)
      | (obtain ⟨h1, h2, -⟩ := H; change a.tmps.getD _ undef = _ at h1; have g1 := h1; rw [Array.getD_eq_getD_getElem?] at g1; change a.tmps.getD _ undef = _ at h2; have g2 := h2; rw [Array.getD_eq_getD_getElem?] at g2)
      | (obtain ⟨h1, -⟩ := H; change a.tmps.getD _ undef = _ at h1; have g1 := h1; rw [Array.getD_eq_getD_getElem?] at g1)
      | skip
    all_goals go_simp
    all_goals first
      | (go_at_call 7; (first | (with_reducible refine (text_pq x1 x2 S1 JX1 JX2 HS1 _ (HTY.out.below hG.out)).mono ?_) | (with_reducible refine (text_pq y1 y2 S2 JY1 JY2 HS2 _ (HTY.out.below hG.out)).mono ?_)); (rintro e w'' ⟨rfl, hb⟩; exact hK _ _ (fun d hd => by cases hd; exact rfl) (hid (hG.out.trans (hb.mono hG.out.size))) hb))
      | (go_at_call 12; (first | (with_reducible refine (conj_pq a1 a2 x1 d1 IA HX1 HD1 _).mono ?_) | (with_reducible refine (conj_pq b1 b2 y1 e1 IB HY1 HE1 _).mono ?_)); (rintro e w'' ⟨rfl, hb⟩; exact hK _ _ (fun d hd => by cases hd; exact rfl) (hid (hG.out.trans (hb.mono hG.out.size))) hb))
      | (go_at_call 11; (with_reducible refine (less_pq x1 d1 y1 e1 _ IX1 IY1 HP3 _).mono ?_); (rintro e w'' ⟨rfl, hb⟩; exact hK _ _ (fun d hd => by cases hd; exact rfl) (hid (hG.out.trans (hb.mono hG.out.size))) hb))
      | exact hK _ _ (fun d hd => by cases hd; exact rfl) hG (Below.refl _ _)
      | exact hK _ _ (fun d hd => by cases hd; exact congrArg Value.bool HXY.out) hG (Below.refl _ _)
      | exact hK _ _ (fun d hd => by cases hd; exact congrArg Value.bool HST.out) hG (Below.refl _ _)

end Go.Proofs.YtgkhmhbmdmjacaaDoor
