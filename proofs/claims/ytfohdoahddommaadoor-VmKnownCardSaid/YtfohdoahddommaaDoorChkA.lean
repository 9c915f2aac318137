/- Layer 5, check: what is gone through, in memory; where instructions lead: a contract for each function. -/
import Derived.Test.YtfohdoahddommaaDoorChkE
import Derived.Test.YtfohdoahddommaaDoorCodA
import Derived.RegionTactic
import Derived.BigRegion
namespace Go.Proofs.YtfohdoahddommaaDoor
open Go.RowKit
set_option linter.unusedVariables false
set_option maxRecDepth 100000

/-- What is gone through: its own block b, the depths' bD, the emits' bE, the effects' bM. -/
structure WkAt (w : World) (b bD bE bM : Nat) (A : Option Addr) (c : Nat) (s : CkS) : Prop where
  lA : 0 < s.D.length → A = some ⟨bD, 0, none⟩
  lE : s.E.length = s.D.length
  c0 : w.cell? ⟨b, 0, none⟩ = some (.slice A s.D.length c)
  c1 : w.cell? ⟨b, 1, none⟩ = some (.int .i64 s.mx)
  c2 : w.cell? ⟨b, 2, none⟩ = some (.int .i64 s.em)
  c3 : w.cell? ⟨b, 3, none⟩ = some (.bool s.u0)
  c4 : w.cell? ⟨b, 4, none⟩ = some (.bool s.u1)
  c5 : w.cell? ⟨b, 5, none⟩ = some (.map (some bM))
  c6 : w.cell? ⟨b, 6, none⟩ = some (.slice (some ⟨bE, 0, none⟩) s.D.length s.D.length)
  f : ∀ j, w.frozen? ⟨b, j, none⟩ = false
  cD : ∀ j, j < s.D.length → w.cell? ⟨bD, j, none⟩ = some (.int .i64 (s.D.getD j 0))
  fD : ∀ j, j < s.D.length → w.frozen? ⟨bD, j, none⟩ = false
  cE : ∀ j, j < s.D.length → w.cell? ⟨bE, j, none⟩ = some (.int .i64 (s.E.getD j 0))
  fE : ∀ j, j < s.D.length → w.frozen? ⟨bE, j, none⟩ = false
  nD : b ≠ bD
  nE : b ≠ bE
  nDE : bD ≠ bE
  m : EffAt w bM
  mb : bM ≠ b
  mD : bM ≠ bD
  mE : bM ≠ bE
  hc : s.D.length ≤ c

section
variable {w w' : World} {b bD bE bM c : Nat} {A : Option Addr} {s : CkS}

theorem WkAt.lt (h : WkAt w b bD bE bM A c s) : b < w.heap.size := World.block_lt_of_cell? w _ h.c1

/-- All cells and marks stay. -/
theorem WkAt.keep (h : WkAt w b bD bE bM A c s) (hc : ∀ x o, x = b ∨ x = bE ∨ (x = bD ∧ 0 < s.D.length) → w'.cell? ⟨x, o, none⟩ = w.cell? ⟨x, o, none⟩ ∧ w'.frozen? ⟨x, o, none⟩ = w.frozen? ⟨x, o, none⟩) (hm : w'.heap[bM]? = w.heap[bM]?) : WkAt w' b bD bE bM A c s where
  lA := h.lA
  lE := h.lE
  c0 := ((hc _ _ (.inl rfl)).1).trans h.c0
  c1 := ((hc _ _ (.inl rfl)).1).trans h.c1
  c2 := ((hc _ _ (.inl rfl)).1).trans h.c2
  c3 := ((hc _ _ (.inl rfl)).1).trans h.c3
  c4 := ((hc _ _ (.inl rfl)).1).trans h.c4
  c5 := ((hc _ _ (.inl rfl)).1).trans h.c5
  c6 := ((hc _ _ (.inl rfl)).1).trans h.c6
  f j := ((hc _ _ (.inl rfl)).2).trans (h.f j)
  cD j hj := ((hc _ _ (.inr (.inr ⟨rfl, by omega⟩))).1).trans (h.cD j hj)
  fD j hj := ((hc _ _ (.inr (.inr ⟨rfl, by omega⟩))).2).trans (h.fD j hj)
  cE j hj := ((hc _ _ (.inr (.inl rfl))).1).trans (h.cE j hj)
  fE j hj := ((hc _ _ (.inr (.inl rfl))).2).trans (h.fE j hj)
  nD := h.nD
  nE := h.nE
  nDE := h.nDE
  m := h.m.keep hm
  mb := h.mb
  mD := h.mD
  mE := h.mE
  hc := h.hc

theorem WkAt.ltE (h : WkAt w b bD bE bM A c s) (hn : 0 < s.D.length) : bE < w.heap.size := World.block_lt_of_cell? w _ (h.cE 0 hn)
theorem WkAt.ltD (h : WkAt w b bD bE bM A c s) (hn : 0 < s.D.length) : bD < w.heap.size := World.block_lt_of_cell? w _ (h.cD 0 hn)
end

theorem target_any (k : Nat) (o a : Int) (w : World) (hk : k ≤ 1000) (h0 : 0 ≤ a) (h1 : a ≤ 1000000) :
    Calls Tryd.prog 48 #[.int .i64 k, val o a] w fun e w' => e = .returned (.int .i64 (k + 1 + a)) ∧ Below w.heap.size w w' := by
  go_enter Tryd.func48, Tryd.ntmps48
  go_wp2_with fail
  go_ret
  exact ⟨rfl, (Below.refl _ _).alloc (Nat.le_refl _) _⟩

theorem jumps_any (o a : Int) (w : World) :
    Calls Tryd.prog 31 #[val o a] w fun e w' => e = .returned (.bool (decide (o = 15 ∨ o = 16))) ∧ Below w.heap.size w w' := by
  by_cases h : o = 15
  · subst h
    go_enter Tryd.func31, Tryd.ntmps31
    go_wp2_with fail
    go_ret
    exact ⟨rfl, (Below.refl _ _).alloc (Nat.le_refl _) _⟩
  · have h1 : (o == 15) = false := by simpa using h
    have e : decide (o = 15 ∨ o = 16) = (o == 16) := by
      rw [Bool.eq_iff_iff]; simp [h]
    rw [e]; clear e
    go_enter Tryd.func31, Tryd.ntmps31
    go_wp2_with fail
    go_ret
    exact ⟨rfl, (Below.refl _ _).alloc (Nat.le_refl _) _⟩

/-- A slice of integers in a block that is new. -/
def NewI (w : World) (B : Nat) (v : Value) (zs : List Int) : Prop :=
  ∃ A, v = .slice A zs.length zs.length ∧ (0 < zs.length → ∃ g, A = some ⟨g, 0, none⟩ ∧ B ≤ g ∧ ∀ j, j < zs.length → w.cell? ⟨g, j, none⟩ = some (.int .i64 (zs.getD j 0)))

theorem NewI.new (w : World) (B : Nat) (h : B ≤ w.heap.size) (zs : List Int) (t : TypeId) :
    NewI (w.alloc (.cells (zs.map (Value.int .i64)).toArray t)) B (.slice (some ⟨w.heap.size, 0, none⟩) zs.length zs.length) zs := by
  refine ⟨_, rfl, fun _ => ⟨_, rfl, h, fun j hj => ?_⟩⟩
  simp [World.cell?_alloc_new, hj]

theorem SlI.new' (w : World) (k : IntKind) (zs : List Int) (t : TypeId) :
    SlI (w.alloc (.cells (zs.map (Value.int k)).toArray t)) (w.alloc (.cells (zs.map (Value.int k)).toArray t)).heap.size k (.slice (some ⟨w.heap.size, 0, none⟩) zs.length zs.length) zs := by
  rw [World.size_alloc]; exact SlI.new w k zs t

def natI (l : List Nat) : List Int := l.map fun (t : Nat) => (t : Int)

set_option maxHeartbeats 1000000 in
theorem next_any (k : Nat) (o a : Int) (w : World) (hk : k ≤ 1000) (h0 : o = 15 ∨ o = 16 → 0 ≤ a ∧ a ≤ 1000000) :
    Calls Tryd.prog 69 #[.int .i64 k, val o a] w fun e w' => ∃ v, e = .returned v ∧ NewI w' w.heap.size v (natI (nextN k o a)) ∧ Below w.heap.size w w' := by
  have HW := hid ((Below.refl _ w).alloc (Nat.le_refl _) (.cells #[.int .i64 o, .int .i64 a] 37))
  by_cases e0 : o = 0
  · subst e0
    go_enter Tryd.func69, Tryd.ntmps69
    go_wp2_with fail
    go_ret
    exact ⟨_, rfl, ⟨_, rfl, fun h => absurd h (by simp [natI, nextN])⟩, HW.out⟩
  have n0 : (o == 0) = false := by simpa using e0
  by_cases e15 : o = 15
  · subst e15
    obtain ⟨a0, a1⟩ := h0 (.inl rfl)
    have HN : Hid (natI (nextN k 15 a) = [(k : Int) + 1, (k : Int) + 1 + a]) := hid (by simp [natI, nextN]; omega)
    clear h0 e0 n0
    go_enter Tryd.func69, Tryd.ntmps69
    go_wp2_with fail
    refine (target_any k 15 a _ hk a0 a1).mono ?_
    rintro e w1 ⟨rfl, hb⟩
    have HB := hid (HW.out.trans (hb.mono HW.out.size)); clear hb HW
    go_wp2_with fail
    go_ret
    refine ⟨_, rfl, ?_, HB.out.alloc HB.out.size _⟩
    rw [HN.out]
    exact NewI.new w1 w.heap.size HB.out.size [(k : Int) + 1, (k : Int) + 1 + a] 3
  have n15 : (o == 15) = false := by simpa using e15
  by_cases e16 : o = 16
  · subst e16
    obtain ⟨a0, a1⟩ := h0 (.inr rfl)
    have HN : Hid (natI (nextN k 16 a) = [(k : Int) + 1 + a]) := hid (by simp [natI, nextN]; omega)
    clear h0 e0 n0 e15 n15
    go_enter Tryd.func69, Tryd.ntmps69
    go_wp2_with fail
    refine (target_any k 16 a _ hk a0 a1).mono ?_
    rintro e w1 ⟨rfl, hb⟩
    have HB := hid (HW.out.trans (hb.mono HW.out.size)); clear hb HW
    go_wp2_with fail
    go_ret
    refine ⟨_, rfl, ?_, HB.out.alloc HB.out.size _⟩
    rw [HN.out]
    exact NewI.new w1 w.heap.size HB.out.size [(k : Int) + 1 + a] 3
  have n16 : (o == 16) = false := by simpa using e16
  have HN : Hid (natI (nextN k o a) = [(k : Int) + 1]) := hid (by unfold nextN; rw [if_neg e0, if_neg e15, if_neg e16]; simp [natI])
  clear h0 e0 e15 e16
  go_enter Tryd.func69, Tryd.ntmps69
  go_wp2_with fail
  go_ret
  refine ⟨_, rfl, ?_, HW.out.alloc HW.out.size _⟩
  rw [HN.out]
  have := NewI.new (w.alloc (.cells #[.int .i64 o, .int .i64 a] 37)) w.heap.size (by simp) [(k : Int) + 1] 3
  rw [World.size_alloc (w := w)] at this
  exact this

end Go.Proofs.YtfohdoahddommaaDoor
