/- Layer 5, check: the document's Check, while it is laid. -/
import Derived.Test.YtfohdoahddommaaGreatDoorRefA
import Derived.Test.YtfohdoahddommaaGreatDoorChkF
namespace Go.Proofs.YtfohdoahddommaaGreatDoor
open Go.RowKit
set_option linter.unusedVariables false
set_option maxRecDepth 100000

abbrev knV (v : Value) (mx em : Int) (u0 u1 ok : Bool) : Value := .agg #[v, .int .i64 mx, .int .i64 em, .bool u0, .bool u1, .bool ok]

def RefPost (W : World) (q : Option CkS) (r : Ending) (w' : World) : Prop :=
  match q with
  | some s => ∃ v, r = .returned (knV v s.mx s.em s.u0 s.u1 true) ∧ SlI w' w'.heap.size .i64 v s.D ∧ Below W.heap.size W w'
  | none => r = .returned (knV (.slice none 0 0) 0 0 false false false) ∧ Below W.heap.size W w'

theorem refpost_ok {W w' : World} {q : Option CkS} {s : CkS} {v : Value} (h : Hid (q = some s)) (h1 : SlI w' w'.heap.size .i64 v s.D) (h2 : Below W.heap.size W w') : RefPost W q (.returned (knV v s.mx s.em s.u0 s.u1 true)) w' := by
  rw [h.out]; exact ⟨v, rfl, h1, h2⟩

theorem refpost_no {W w' : World} {q : Option CkS} (h : Hid (q = none)) (h2 : Below W.heap.size W w') : RefPost W q (.returned (knV (.slice none 0 0) 0 0 false false false)) w' := by
  rw [h.out]; exact ⟨rfl, h2⟩

theorem box6_of (w : World) (t : TypeId) (a b c d e f : Value) : ∃ W : World, w.alloc (.cells #[a, b, c, d, e, f] t) = W ∧
    (W.cell? ⟨w.heap.size, 0, none⟩ = some a ∧ W.cell? ⟨w.heap.size, 1, none⟩ = some b ∧ W.cell? ⟨w.heap.size, 2, none⟩ = some c ∧ W.cell? ⟨w.heap.size, 3, none⟩ = some d ∧ W.cell? ⟨w.heap.size, 4, none⟩ = some e ∧ W.cell? ⟨w.heap.size, 5, none⟩ = some f) ∧
    (∀ j, W.frozen? ⟨w.heap.size, j, none⟩ = false) ∧ W.heap.size = w.heap.size + 1 ∧ Hid (Below w.heap.size w W) := by
  refine ⟨_, rfl, ⟨?_, ?_, ?_, ?_, ?_, ?_⟩, fun j => ?_, ?_, hid ((Below.refl _ w).alloc (Nat.le_refl _) _)⟩
  all_goals simp [World.frozen?_alloc_new]

theorem below_set6 {B g : Nat} {w w' : World} (h : Below B w w') (hg : B ≤ g) (a b c d e f : Value) : Below B w ((((((w'.setCell ⟨g, 0, none⟩ a).setCell ⟨g, 1, none⟩ b).setCell ⟨g, 2, none⟩ c).setCell ⟨g, 3, none⟩ d).setCell ⟨g, 4, none⟩ e).setCell ⟨g, 5, none⟩ f) :=
  (((((h.setCell hg _).setCell hg _).setCell hg _).setCell hg _).setCell hg _).setCell hg _

theorem set6_other {g x : Nat} (w : World) (j : Nat) (h : x ≠ g) (a b c d e f : Value) : ((((((w.setCell ⟨g, 0, none⟩ a).setCell ⟨g, 1, none⟩ b).setCell ⟨g, 2, none⟩ c).setCell ⟨g, 3, none⟩ d).setCell ⟨g, 4, none⟩ e).setCell ⟨g, 5, none⟩ f).cell? ⟨x, j, none⟩ = w.cell? ⟨x, j, none⟩ := by
  have o : ∀ (w : World) (i : Nat) (v : Value), (w.setCell ⟨g, i, none⟩ v).cell? ⟨x, j, none⟩ = w.cell? ⟨x, j, none⟩ := fun w i v => World.cell?_setCell_other _ _ _ _ (by intro e; injection e with e1; exact h e1.symm)
  rw [o, o, o, o, o, o]

/-- While the depths are laid. -/
structure R0At (W w : World) (g2 g3 bM gT base k : Nat) (v : Value) : Prop where
  r0 : w.cell? ⟨g2, 0, none⟩ = some (.slice none 0 0)
  r1 : w.cell? ⟨g2, 1, none⟩ = some (.int .i64 0)
  r2 : w.cell? ⟨g2, 2, none⟩ = some (.int .i64 0)
  r3 : w.cell? ⟨g2, 3, none⟩ = some (.bool false)
  r4 : w.cell? ⟨g2, 4, none⟩ = some (.bool false)
  r5 : w.cell? ⟨g2, 5, none⟩ = some (.bool false)
  rf : ∀ j, w.frozen? ⟨g2, j, none⟩ = false
  k0 : w.cell? ⟨g3, 0, none⟩ = some v
  k1 : w.cell? ⟨g3, 1, none⟩ = some (.int .i64 0)
  k2 : w.cell? ⟨g3, 2, none⟩ = some (.int .i64 0)
  k3 : w.cell? ⟨g3, 3, none⟩ = some (.bool false)
  k4 : w.cell? ⟨g3, 4, none⟩ = some (.bool false)
  k5 : w.cell? ⟨g3, 5, none⟩ = some (.bool true)
  kf : ∀ j, w.frozen? ⟨g3, j, none⟩ = false
  own : w.ownsRow base 3 1 v k (List.replicate k (.int .i64 (-1)))
  met : MapAt w bM []
  oT : w.heap[gT]? = some (.cells #[.int .i64 0, .int .i64 0, .int .i64 0] 49 (0, 0))
  d23 : g2 < g3
  d3M : g3 < bM
  dMT : bM < gT
  dT : gT < base
  lt : base ≤ w.heap.size
  bel : Below W.heap.size W w
  b2 : W.heap.size ≤ g2

theorem r0_new {W V : World} {g2 : Nat} (hb : Hid (Below W.heap.size W V)) (r0 : V.cell? ⟨g2, 0, none⟩ = some (.slice none 0 0)) (r1 : V.cell? ⟨g2, 1, none⟩ = some (.int .i64 0)) (r2 : V.cell? ⟨g2, 2, none⟩ = some (.int .i64 0)) (r3 : V.cell? ⟨g2, 3, none⟩ = some (.bool false)) (r4 : V.cell? ⟨g2, 4, none⟩ = some (.bool false)) (r5 : V.cell? ⟨g2, 5, none⟩ = some (.bool false))
    (rf : ∀ j, V.frozen? ⟨g2, j, none⟩ = false) (b2 : W.heap.size ≤ g2) :
    Hid (R0At W (((V.alloc (.cells #[.slice none 0 0, .int .i64 0, .int .i64 0, .bool false, .bool false, .bool true] 36)).alloc (.map #[] 0)).alloc (.cells #[.int .i64 0, .int .i64 0, .int .i64 0] 49)) g2 V.heap.size (V.heap.size + 1) (V.heap.size + 2) (V.heap.size + 3) 0 (.slice none 0 0)) := by
  have l2 : g2 < V.heap.size := World.block_lt_of_cell? V _ r0
  obtain ⟨V1, hV1, ⟨q0, q1, q2, q3, q4, q5⟩, qf, qs, HV1⟩ := box6_of V 36 (.slice none 0 0) (.int .i64 0) (.int .i64 0) (.bool false) (.bool false) (.bool true)
  rw [hV1]
  have hM := MapAt.new V1
  have hB2 := ((Below.refl V1.heap.size V1).alloc (Nat.le_refl _) (.map #[] 0)).alloc (by simp) (.cells #[.int .i64 0, .int .i64 0, .int .i64 0] 49)
  have c1 := (bcell HV1.out).1; have f1 := (bcell HV1.out).2
  have c2 := (bcell hB2).1; have f2 := (bcell hB2).2
  have e1 : (V1.alloc (.map #[] 0)).heap.size = V.heap.size + 2 := by rw [World.size_alloc, qs]
  have cc : ∀ j, (((V1.alloc (.map #[] 0)).alloc (.cells #[.int .i64 0, .int .i64 0, .int .i64 0] 49))).cell? ⟨g2, j, none⟩ = V.cell? ⟨g2, j, none⟩ := fun j => (c2 _ _ (by omega)).trans (c1 _ _ l2)
  have ck : ∀ j, (((V1.alloc (.map #[] 0)).alloc (.cells #[.int .i64 0, .int .i64 0, .int .i64 0] 49))).cell? ⟨V.heap.size, j, none⟩ = V1.cell? ⟨V.heap.size, j, none⟩ := fun j => c2 _ _ (by omega)
  refine hid ⟨(cc _).trans r0, (cc _).trans r1, (cc _).trans r2, (cc _).trans r3, (cc _).trans r4, (cc _).trans r5, fun j => ((f2 _ _ (by omega)).trans (f1 _ _ l2)).trans (rf j),
    (ck _).trans q0, (ck _).trans q1, (ck _).trans q2, (ck _).trans q3, (ck _).trans q4, (ck _).trans q5, fun j => (f2 _ _ (by omega)).trans (qf j), World.ownsRow_nil _ _ _ _, ?_, ?_, l2, by omega, by omega, by omega, by rw [World.size_alloc, e1]; omega, ?_, b2⟩
  · have := hM.alloc (.cells #[.int .i64 0, .int .i64 0, .int .i64 0] 49)
    rw [qs] at this
    exact this
  · have := heap_alloc_new (V1.alloc (.map #[] 0)) (.cells #[.int .i64 0, .int .i64 0, .int .i64 0] 49)
    rw [e1] at this
    exact this
  · have h1 := hb.out.trans (HV1.out.mono hb.out.size)
    exact h1.trans (hB2.mono h1.size)

theorem R0At.low {W wr w3 : World} {g2 g3 bM gT base k : Nat} {v : Value} {o : Obj} (h : Hid (R0At W wr g2 g3 bM gT base k v)) (hg : (wr.alloc o).grownBy w3 v.ownBlock) : ∀ x, x < base → w3.heap[x]? = wr.heap[x]? := by
  intro x hx
  have hlt := h.out.lt
  rw [hg.block x (by rw [World.size_alloc]; omega) (fun e => by have := (h.out.own.lt x e.symm).1; omega)]
  exact Below.heap_alloc _ _ _ (by omega)

theorem r0_step {W wr w3 : World} {g2 g3 bM gT base k g cap : Nat} {v : Value} {o : Obj} (h : Hid (R0At W wr g2 g3 bM gT base k v)) (hg : (wr.alloc o).grownBy w3 v.ownBlock)
    (hown : w3.ownsRow base 3 1 (.slice (some ⟨g, 0, none⟩) (k + 1) cap) (k + 1) (List.replicate k (.int .i64 (-1)) ++ [.int .i64 (-1)])) (hgb : base ≤ g) :
    Hid (R0At W (w3.setCell ⟨g3, 0, none⟩ (.slice (some ⟨g, 0, none⟩) (k + 1) cap)) g2 g3 bM gT base (k + 1) (.slice (some ⟨g, 0, none⟩) (k + 1) cap)) := by
  have low := R0At.low h hg
  have d1 := h.out.d23; have d2 := h.out.d3M; have d3 := h.out.dMT; have d4 := h.out.dT; have d5 := h.out.lt; have d6 := h.out.b2
  have o1 : ∀ x j, x < base → (x = g3 → j ≠ 0) → (w3.setCell ⟨g3, 0, none⟩ (.slice (some ⟨g, 0, none⟩) (k + 1) cap)).cell? ⟨x, j, none⟩ = wr.cell? ⟨x, j, none⟩ := fun x j hx hj => by
    rw [World.cell?_setCell_other _ _ _ _ (by intro e; injection e with e1 e2; exact hj e1.symm e2.symm)]
    exact World.cell?_of_block (low x hx)
  have o2 : ∀ x j, x < base → (w3.setCell ⟨g3, 0, none⟩ (.slice (some ⟨g, 0, none⟩) (k + 1) cap)).frozen? ⟨x, j, none⟩ = wr.frozen? ⟨x, j, none⟩ := fun x j hx => by
    rw [World.frozen?_setCell]; exact World.frozen?_of_block (low x hx)
  refine hid ⟨(o1 _ _ (by omega) (by omega)).trans h.out.r0, (o1 _ _ (by omega) (by omega)).trans h.out.r1, (o1 _ _ (by omega) (by omega)).trans h.out.r2, (o1 _ _ (by omega) (by omega)).trans h.out.r3, (o1 _ _ (by omega) (by omega)).trans h.out.r4, (o1 _ _ (by omega) (by omega)).trans h.out.r5, fun j => (o2 _ _ (by omega)).trans (h.out.rf j),
    ?_, (o1 _ _ (by omega) (by omega)).trans h.out.k1, (o1 _ _ (by omega) (by omega)).trans h.out.k2, (o1 _ _ (by omega) (by omega)).trans h.out.k3, (o1 _ _ (by omega) (by omega)).trans h.out.k4, (o1 _ _ (by omega) (by omega)).trans h.out.k5, fun j => (o2 _ _ (by omega)).trans (h.out.kf j), ?_, ?_, ?_, d1, d2, d3, d4, ?_, ?_, d6⟩
  · rw [World.cell?_setCell_same _ _ _ ((World.cell?_of_block (low g3 (by omega))).trans h.out.k0)]
  · rw [List.replicate_succ']
    exact hown.kept (turned_set (turned_refl w3 (some g3)) (.inl rfl) _) (.inr (by simp only [Value.ownBlock]; intro e; injection e with e; omega))
  · exact (h.out.met.keep (low _ (by omega))).setCell (by simp only; omega) _
  · rw [Below.heap_setCell _ _ _ _ (by simp only; omega), low _ (by omega)]
    exact h.out.oT
  · have := hg.size
    simp at *
    omega
  · have h1 := h.out.bel.alloc h.out.bel.size o
    have h2 := h1.grown hg h1.size (fun x hx => by
      have := (h.out.own.lt x hx).1
      omega)
    exact h2.setCell (by simp only; omega) _

theorem r0_done {W w : World} {g2 g3 bM gT base n : Nat} {v : Value} (h : Hid (R0At W w g2 g3 bM gT base n v)) :
    ∃ K : RfK, K.g2 = g2 ∧ K.g3 = g3 ∧ K.bM = bM ∧ K.n = n ∧ v = .slice K.A n K.c ∧ RfAt W w K (.slice (some ⟨gT, 0, none⟩) 1 1) ⟨[], [(0, 0, 0)], List.replicate n (-1), 0, 0, false, false⟩ := by
  have d1 := h.out.d23; have d2 := h.out.d3M; have d3 := h.out.dMT; have d4 := h.out.dT; have d5 := h.out.lt; have d6 := h.out.b2
  have hr1 : ∀ j, j < n → (List.replicate n (-1 : Int)).getD j 0 = -1 := fun j hj => by simp [List.getD_eq_getElem?_getD, hj]
  have hT : w.ownsRow W.heap.size 49 3 (.slice (some ⟨gT, 0, none⟩) 1 1) 1 ([(0, 0, 0)].flatMap plC) :=
    ⟨by simp [plC], .inr ⟨gT, 1, _, rfl, by omega, h.out.oT, Nat.le_refl _, by unfold maxLen; omega, by simp, by simp [plC]⟩⟩
  by_cases hn : 0 < n
  · obtain ⟨g, cap, rfl, hg0, hg1, hc, hm, hcell, hfr⟩ := own_cell h.out.own hn
    refine ⟨⟨g2, g3, bM, g, W.heap.size, n, cap, some ⟨g, 0, none⟩⟩, rfl, rfl, rfl, rfl, rfl, ⟨h.out.r0, h.out.r1, h.out.r2, h.out.r3, h.out.r4, h.out.r5, h.out.rf, h.out.k0, h.out.k1, h.out.k2, h.out.k3, h.out.k4, h.out.k5, h.out.kf, fun _ => rfl, by simp, hc, fun j hj => ?_, fun j hj => hfr j, h.out.met, hT, ?_, ?_, ?_, ?_, ?_, h.out.bel, d6, ?_, ?_, Nat.le_refl _, h.out.bel.size⟩⟩
    · simp only
      simp only at hj
      rw [hcell j (by omega), hr1 j hj]
      simp [hj]
    · intro x hx
      simp only [Value.ownBlock, Option.some.injEq] at hx
      subst hx
      exact ⟨by simp only; omega, by simp only; omega, by simp only; omega, fun _ => by simp only; omega⟩
    · simp only; omega
    · simp only; omega
    · simp only; omega
    · intro _; refine ⟨?_, ?_, ?_, ?_⟩ <;> simp only <;> omega
    · simp only; omega
    · simp only; omega
  · obtain rfl : n = 0 := by omega
    obtain ⟨A, c, hv⟩ := own_form h.out.own
    subst hv
    refine ⟨⟨g2, g3, bM, 0, W.heap.size, 0, c, A⟩, rfl, rfl, rfl, rfl, rfl, ⟨h.out.r0, h.out.r1, h.out.r2, h.out.r3, h.out.r4, h.out.r5, h.out.rf, h.out.k0, h.out.k1, h.out.k2, h.out.k3, h.out.k4, h.out.k5, h.out.kf, fun q => absurd q (by simp), by simp, by simp, fun j hj => absurd hj (by simp), fun j hj => absurd hj (by simp), h.out.met, hT, ?_, ?_, ?_, ?_, fun q => absurd q (by simp), h.out.bel, d6, ?_, ?_, Nat.le_refl _, h.out.bel.size⟩⟩
    · intro x hx
      simp only [Value.ownBlock, Option.some.injEq] at hx
      subst hx
      exact ⟨by simp only; omega, by simp only; omega, by simp only; omega, fun q => absurd q (by simp)⟩
    · simp only; omega
    · simp only; omega
    · simp only; omega
    · simp only; omega
    · simp only; omega

end Go.Proofs.YtfohdoahddommaaGreatDoor
